/-
  DiskLasts: noted.
-/
import Derived.Test.YtjepeeopjjnglaaDl3
import Derived.Test.YtjepeeopjjnglaaLq
import Derived.Deep.RegionHeldLaw
namespace Go.Proofs.Ytjepeeopjjnglaa
open Go Go.RowKit Go.ChangeShapes
open Wb
open Rd
theorem step_appRun {P : Program} {w W : World} {ops : Array Oper} {o : Oper} {a : Act} {K : Act → World → Prop} {Q : Exit → Act → World → Prop} {E : Prop} {v u y : Value} (hw : Region.wanted o (yielded ops a.tmps) = true) (s x : Operand) (t : TypeId) (ho : o.op = .call { callee := .builtin .append, args := #[s, x], argTypes := #[t, t] }) (hs : a.eval s = u) (hx : a.eval x = y) (hr : (Builtin.append_ #[t, t] o.type #[u, y]).run P w = .ok v W) (h : K (a.put o.dst v) W) : if Region.wanted o (yielded ops a.tmps) = true then Oper.wp P o a w K Q else E := by
  rw [if_pos hw]
  unfold Oper.wp
  simp [execOp, ho, resolve, invoke, builtin, hs, hx, hr, Result.andThen]
  exact h
/-- an operation by its run, in a region that draws -/
theorem step_run {P : Program} {w W : World} {ops : Array Oper} {o : Oper} {a : Act} {K : Act → World → Prop} {Q : Exit → Act → World → Prop} {E : Prop} {v : Value} (hw : Region.wanted o (yielded ops a.tmps) = true) (hr : (execOp a.eval o).run P w = .ok (.value v) W) (h : K (a.put o.dst v) W) : if Region.wanted o (yielded ops a.tmps) = true then Oper.wp P o a w K Q else E := by
  rw [if_pos hw]
  unfold Oper.wp
  rw [hr]
  exact h
/-- what noted leaves -/
structure NtP (B : Nat) (K : Nat → Prop) (w : World) (v : Value) (w' : World) (v' : Value) (ys : List WE) : Prop where
  wm : WM B (fun q => K q ∨ KT w.heap.size w' q) w' v' ys
  fr : IFr w w' fun q => v.ownBlock = some q
  row : ∀ q, v'.ownBlock = some q → v.ownBlock = some q ∨ w.heap.size ≤ q
section
variable {B : Nat} {K : Nat → Prop} {w W w' : World} {v v' : Value} {xs ys : List WE}
theorem WM.low {B2 : Nat} (h : WM B K w v xs) (hB : B2 ≤ B) : WM B2 K w v xs := ⟨row_low h.row hB, h.wb⟩
/-- a new row of words -/
theorem NtP.new (h : WM W.heap.size K w' v' ys) (hW : Below w.heap.size w W) (hb : Below W.heap.size W w') (hB : B ≤ w.heap.size) : NtP B K w v w' v' ys := by
  have h1 := hW.size
  refine ⟨(h.low (by omega)).mono fun q e => .inl e, IFr.kept (andThen hW hb), fun q e => .inr ?_⟩
  have := (World.ownsRow.lt h.row q e).1
  omega
theorem flat_set6 (x : WE) (i : Nat) (u : Value) (hi : i < 6) : ∀ (xs : List WE) (k : Nat) (hk : k < xs.length), enW x = (enW xs[k]).set i u → (xs.flatMap enW).set (k * 6 + i) u = (xs.set k x).flatMap enW
  | [], k, h, _ => by simp at h
  | y :: r, 0, _, e => by
    have e2 : enW x = (enW y).set i u := e
    rw [List.flatMap_cons, Nat.zero_mul, Nat.zero_add, List.set_cons_zero, List.flatMap_cons, e2, List.set_append_left _ _ (by rw [enW_len]; exact hi)]
  | y :: r, k + 1, h, e => by
    have h9 := flat_set6 x i u hi r k (by simpa using h) (by simpa using e)
    rw [List.flatMap_cons, List.set_cons_succ, List.flatMap_cons, ← h9, List.set_append_right _ _ (by rw [enW_len]; omega), enW_len, show (k + 1) * 6 + i - 6 = k * 6 + i by omega]
/-- one cell of a word is written -/
theorem WM.put {b c : Nat} (h : WM B K w (.slice (some ⟨b, 0, none⟩) xs.length c) xs) (hb : ¬ K b) (k i : Nat) (hk : k < xs.length) (hi : i < 6) (u : Value) (x : WE) (he : enW x = (enW xs[k]).set i u) (hx : WB K w x) : WM B K (w.setCell ⟨b, k * 6 + i, none⟩ u) (.slice (some ⟨b, 0, none⟩) (xs.set k x).length c) (xs.set k x) ∧ IFr w (w.setCell ⟨b, k * 6 + i, none⟩ u) (fun q => q = b) := by
  obtain ⟨s1, t1⟩ := World.ownsRow.stored h.row (k * 6 + i) u
  rw [flat_set6 x i u hi xs k hk he] at s1
  have far : ∀ q, q ≠ b → (w.setCell ⟨b, k * 6 + i, none⟩ u).heap[q]? = w.heap[q]? := fun q hq => set_other _ _ _ _ hq
  have hKb : ∀ q, K q → q < w.heap.size → (w.setCell ⟨b, k * 6 + i, none⟩ u).heap[q]? = w.heap[q]? := fun q hq _ => far q fun e => hb (by rw [← e]; exact hq)
  refine ⟨⟨by rw [List.length_set]; exact s1, fun y hy => ?_⟩, ⟨rfl, rfl, rfl, by rw [size_set1]; exact Nat.le_refl _, fun q _ hn => far q hn⟩⟩
  rcases List.mem_or_eq_of_mem_set hy with e | e
  · exact (h.wb y e).blk hKb
  · rw [e]
    exact hx.blk hKb
theorem set6 (y : WE) (r : List Value) (a b c d e f : Value) : ((((((enW y ++ r).set 0 a).set 1 b).set 2 c).set 3 d).set 4 e).set 5 f = [a, b, c, d, e, f] ++ r := by
  simp [enW]
theorem flat_setA (a b c d e f : Value) (x : WE) (hx : enW x = [a, b, c, d, e, f]) : ∀ (xs : List WE) (k : Nat), k < xs.length → (((((((xs.flatMap enW).set (k * 6) a).set (k * 6 + 1) b).set (k * 6 + 2) c).set (k * 6 + 3) d).set (k * 6 + 4) e).set (k * 6 + 5) f) = (xs.set k x).flatMap enW
  | [], k, h => by simp at h
  | y :: r, 0, _ => by
    rw [List.flatMap_cons, Nat.zero_mul, Nat.zero_add, Nat.zero_add, Nat.zero_add, Nat.zero_add, Nat.zero_add, set6, ← hx]
    rfl
  | y :: r, k + 1, h => by
    have h9 := flat_setA a b c d e f x hx r k (by simpa using h)
    rw [List.flatMap_cons, List.set_cons_succ, List.flatMap_cons, ← h9]
    have hl : (enW y).length = 6 := rfl
    rw [List.set_append_right _ _ (by omega), List.set_append_right _ _ (by omega), List.set_append_right _ _ (by omega), List.set_append_right _ _ (by omega), List.set_append_right _ _ (by omega), List.set_append_right _ _ (by omega), hl, show (k + 1) * 6 - 6 = k * 6 by omega, show (k + 1) * 6 + 1 - 6 = k * 6 + 1 by omega, show (k + 1) * 6 + 2 - 6 = k * 6 + 2 by omega, show (k + 1) * 6 + 3 - 6 = k * 6 + 3 by omega, show (k + 1) * 6 + 4 - 6 = k * 6 + 4 by omega, show (k + 1) * 6 + 5 - 6 = k * 6 + 5 by omega]
theorem ifr_setW (w : World) (b i : Nat) (u : Value) : IFr w (w.setCell ⟨b, i, none⟩ u) (fun q => q = b) :=
  ⟨rfl, rfl, rfl, by rw [size_set1]; exact Nat.le_refl _, fun _ _ hn => set_other _ _ _ _ hn⟩
theorem IFr.setW {w w' : World} {b : Nat} (h : IFr w w' (fun q => q = b)) (i : Nat) (u : Value) : IFr w (w'.setCell ⟨b, i, none⟩ u) (fun q => q = b) :=
  h.trans (ifr_setW w' b i u) fun _ _ e => e
/-- a whole word is written -/
theorem WM.put6 {b c : Nat} (h : WM B K w (.slice (some ⟨b, 0, none⟩) xs.length c) xs) (hb : ¬ K b) (k : Nat) (hk : k < xs.length) (x : WE) (a0 a1 a2 a3 a4 a5 : Value) (he : enW x = [a0, a1, a2, a3, a4, a5]) (hx : WB K w x) : WM B K ((((((w.setCell ⟨b, k * 6, none⟩ a0).setCell ⟨b, k * 6 + 1, none⟩ a1).setCell ⟨b, k * 6 + 2, none⟩ a2).setCell ⟨b, k * 6 + 3, none⟩ a3).setCell ⟨b, k * 6 + 4, none⟩ a4).setCell ⟨b, k * 6 + 5, none⟩ a5) (.slice (some ⟨b, 0, none⟩) xs.length c) (xs.set k x) ∧ IFr w ((((((w.setCell ⟨b, k * 6, none⟩ a0).setCell ⟨b, k * 6 + 1, none⟩ a1).setCell ⟨b, k * 6 + 2, none⟩ a2).setCell ⟨b, k * 6 + 3, none⟩ a3).setCell ⟨b, k * 6 + 4, none⟩ a4).setCell ⟨b, k * 6 + 5, none⟩ a5) (fun q => q = b) := by
  obtain ⟨s0, -⟩ := World.ownsRow.stored h.row (k * 6) a0
  obtain ⟨s1, -⟩ := World.ownsRow.stored s0 (k * 6 + 1) a1
  obtain ⟨s2, -⟩ := World.ownsRow.stored s1 (k * 6 + 2) a2
  obtain ⟨s3, -⟩ := World.ownsRow.stored s2 (k * 6 + 3) a3
  obtain ⟨s4, -⟩ := World.ownsRow.stored s3 (k * 6 + 4) a4
  obtain ⟨s5, -⟩ := World.ownsRow.stored s4 (k * 6 + 5) a5
  rw [flat_setA a0 a1 a2 a3 a4 a5 x he xs k hk] at s5
  have hf := ((((((ifr_setW w b (k * 6) a0).setW (k * 6 + 1) a1).setW (k * 6 + 2) a2).setW (k * 6 + 3) a3).setW (k * 6 + 4) a4).setW (k * 6 + 5) a5)
  generalize ((((((w.setCell ⟨b, k * 6, none⟩ a0).setCell ⟨b, k * 6 + 1, none⟩ a1).setCell ⟨b, k * 6 + 2, none⟩ a2).setCell ⟨b, k * 6 + 3, none⟩ a3).setCell ⟨b, k * 6 + 4, none⟩ a4).setCell ⟨b, k * 6 + 5, none⟩ a5) = W at s5 hf ⊢
  have hKb : ∀ q, K q → q < w.heap.size → W.heap[q]? = w.heap[q]? := fun q hq hl => hf.block q hl fun e => hb (by rw [← e]; exact hq)
  refine ⟨⟨by rw [List.length_set]; exact s5, fun y hy => ?_⟩, hf⟩
  rcases List.mem_or_eq_of_mem_set hy with e | e
  · exact (h.wb y e).blk hKb
  · rw [e]
    exact hx.blk hKb
/-- the same row -/
theorem NtP.old {b n n2 c : Nat} (h : WM B K w' (.slice (some ⟨b, 0, none⟩) n2 c) ys) (hW : Below w.heap.size w W) (hf : IFr W w' fun q => q = b) : NtP B K w (.slice (some ⟨b, 0, none⟩) n c) w' (.slice (some ⟨b, 0, none⟩) n2 c) ys :=
  ⟨h.mono fun q e => .inl e, (IFr.kept hW).trans hf fun q _ e => by rw [e]; rfl, fun q e => .inl e⟩
theorem ntd_k (l : List Dk.Wd) (o : Rop) (hk : 2 ≤ o.k ∧ o.k ≤ 4) {i : Nat} (hp : Dk.plc l o.a.data.toList = some i) : Dk.ntd l o = if o.k = 2 then l.set i { Dk.wat l i with data := (Dk.wat l i).data ++ o.data } else if o.k = 3 then l.set i { Dk.wat l i with next := (Dk.wat l i).data, hasN := true } else if 0 ≤ o.n ∧ o.n ≤ ((Dk.wat l i).data.length : Int) then l.set i (Dk.wd0 o.a.data.toList ((Dk.wat l i).data.take o.n.toNat)) else l := by
  unfold Dk.ntd
  rw [if_neg (by omega), if_neg (by omega), if_neg (by omega), if_neg (by omega), hp]
theorem wat_map (xs : List WE) (i : Nat) (h : i < xs.length) : Dk.wat (xs.map (·.1)) i = xs[i].1 := by
  rw [Dk.wat_eq (by simpa using h), List.getElem_map]
end
set_option maxRecDepth 100000 in
set_option maxHeartbeats 32000000 in
theorem dlnoted_any (B : Nat) (K : Nat → Prop) (v : Value) (xs : List WE) (o : Rop) (w : World) (h : WM B K w v xs) (hK : ∀ q, K q → KT B w q) (hB : B ≤ w.heap.size) (hxl : xs.length ≤ 300000000) (hln : ∀ x ∈ xs, x.1.data.length ≤ 4194304) (hk : 1 ≤ o.k ∧ o.k ≤ 7) (hdb : Bs w (.slice o.da o.data.length o.dc) o.data) (hdl : o.k = 2 → o.data.length ≤ 4194304) (hp : 2 ≤ o.k → o.k ≤ 5 → ∃ i, Dk.plc (xs.map (·.1)) o.a.data.toList = some i) (h4 : o.k = 4 → ∀ i, Dk.plc (xs.map (·.1)) o.a.data.toList = some i → 0 ≤ o.n ∧ o.n ≤ ((Dk.wat (xs.map (·.1)) i).data.length : Int)) :
    Calls Try.prog 39 #[v, opv o] w fun e w' => ∃ v' ys, e = .returned v' ∧ NtP B K w v w' v' ys ∧ ys.map (·.1) = Dk.ntd (xs.map (·.1)) o := by
  obtain ⟨k, two, oa, ob, n, da, dc, data, ca, cc, cs, fa, fn, fc⟩ := o
  obtain ⟨sa, rfl⟩ : ∃ l : List UInt8, oa = ⟨l.toArray⟩ := ⟨oa.data.toList, by simp⟩
  obtain ⟨sb, rfl⟩ : ∃ l : List UInt8, ob = ⟨l.toArray⟩ := ⟨ob.data.toList, by simp⟩
  have ea : (⟨sa.toArray⟩ : ByteArray).data.toList = sa := rfl
  simp only [] at hk hdb hdl hp h4
  obtain ⟨a0, c0, ev, hc1, hc2, hc3⟩ := row_at h.row
  subst ev
  obtain ⟨m, hm⟩ : ∃ m, m = xs.length := ⟨_, rfl⟩
  rw [← hm] at h hc1 hxl ⊢
  have HMX : Hid (m = xs.length) := hm
  have hbx := lb_new w [.int .i64 k, .bool two, .string ⟨sa.toArray⟩, .string ⟨sb.toArray⟩, .int .i64 n, .slice da data.length dc, .slice ca cs.length cc, .slice fa fn fc] 33
  have hbu := up0 w (.cells #[.int .i64 k, .bool two, .string ⟨sa.toArray⟩, .string ⟨sb.toArray⟩, .int .i64 n, .slice da data.length dc, .slice ca cs.length cc, .slice fa fn fc] 33)
  obtain ⟨W2, hW2⟩ : ∃ W, W = w.alloc (.cells #[.int .i64 k, .bool two, .string ⟨sa.toArray⟩, .string ⟨sb.toArray⟩, .int .i64 n, .slice da data.length dc, .slice ca cs.length cc, .slice fa fn fc] 33) := ⟨_, rfl⟩
  obtain ⟨p3, hp3⟩ : ∃ p, p = w.heap.size := ⟨_, rfl⟩
  have HBX : Hid (LB W2 p3 33 [.int .i64 k, .bool two, .string ⟨sa.toArray⟩, .string ⟨sb.toArray⟩, .int .i64 n, .slice da data.length dc, .slice ca cs.length cc, .slice fa fn fc] ∧ Below w.heap.size w W2 ∧ w.heap.size ≤ p3) := by
    rw [hW2, hp3]
    exact ⟨hbx, hbu, Nat.le_refl _⟩
  have HW2 : Hid (w.alloc (.cells #[.int .i64 k, .bool two, .string ⟨sa.toArray⟩, .string ⟨sb.toArray⟩, .int .i64 n, .slice da data.length dc, .slice ca cs.length cc, .slice fa fn fc] 33) = W2 ∧ w.heap.size = p3) := ⟨hW2.symm, hp3.symm⟩
  have HW : Hid (WM B K w (.slice a0 m c0) xs ∧ (∀ q, K q → KT B w q) ∧ B ≤ w.heap.size) := ⟨h, hK, hB⟩
  have HWM : Hid (∀ W, Below W2.heap.size W2 W → WM B K W (.slice a0 m c0) xs) := fun W hW => h.kept (andThen HBX.out.2.1 hW)
  have HLN : Hid (∀ x ∈ xs, x.1.data.length ≤ 4194304) := hln
  have HDB : Hid (∀ W, Below w.heap.size w W → Bs W (.slice da data.length dc) data) := fun W hW => hdb.kept hW
  have HPL : Hid (Calls Try.prog 56 #[.slice a0 m c0, .string ⟨sa.toArray⟩] W2 fun e w' => e = .returned (.int .i64 (plcI (xs.map (·.1)) sa)) ∧ W2 = w') := (dlplace_any B K _ xs sa W2 (HWM.out W2 (Below.refl _ _))).mono fun e w' ⟨h1, h2⟩ => ⟨h1, h2.symm⟩
  obtain ⟨pi, hpi⟩ : ∃ p, p = plcI (xs.map (·.1)) sa := ⟨_, rfl⟩
  rw [← hpi] at HPL
  have HPI : Hid (pi = plcI (xs.map (·.1)) sa) := hpi
  have HP : Hid (2 ≤ k → k ≤ 5 → ∃ i, Dk.plc (xs.map (·.1)) sa = some i) := hp
  have H4 : Hid (k = 4 → ∀ i, Dk.plc (xs.map (·.1)) sa = some i → 0 ≤ n ∧ n ≤ ((Dk.wat (xs.map (·.1)) i).data.length : Int)) := h4
  have HDL : Hid (k = 2 → data.length ≤ 4194304) := hdl
  have HC3 : Hid (xs ≠ [] → ∃ b, a0 = some ⟨b, 0, none⟩) := hc3
  unfold maxLen at hc2
  clear hbx hbu hW2 hp3 h hK hB hln hdb hpi hp h4 hdl hc3 hm
  have d0 := HBX.out.1.cell 0 _ rfl
  have d2 := HBX.out.1.cell 2 _ rfl
  have HLS : Hid (∀ (W : World) (s : List UInt8) (u : Value) (zs : List WE) (B2 : Nat), Below W2.heap.size W2 W → WM B2 K W u zs → zs.length ≤ 300000000 → Calls Try.prog 57 #[u, .string ⟨s.toArray⟩] W fun e w' => ∃ a9 n9 c9, e = .returned (.slice a9 n9 c9) ∧ WM W2.heap.size K w' (.slice a9 n9 c9) (lsE zs s) ∧ Below W2.heap.size W2 w' ∧ Below W.heap.size W w') := fun W s u zs B2 hW hu hz => (dlless_any B2 K u zs s W hu (by omega) (fun q hq => by
    have h1 := (HW.out.2.1 q hq).lt
    have h2 := HBX.out.2.1.size
    have h3 := hW.size
    omega)).mono fun e w' ⟨v', h1, h2, h3⟩ => by
      obtain ⟨a9, c9, rfl, -⟩ := row_at h2.row
      exact ⟨_, _, _, h1, h2.low hW.size, andThen hW h3, h3⟩
  have HAP : Hid (∀ (W : World) (u : Value) (zs : List WE) (x : WE) (g : Nat), Below W2.heap.size W2 W → WM W2.heap.size K W u zs → WB K W x → LB W g 99 (enW x) → zs.length ≤ 300000000 → ∃ a4 n4 c4 W4, (Builtin.append_ #[68, 68] 68 #[u, .slice (some ⟨g, 0, none⟩) 1 1]).run Try.prog W = .ok (.slice a4 n4 c4) W4 ∧ WM W2.heap.size K W4 (.slice a4 n4 c4) (zs ++ [x]) ∧ Below W2.heap.size W2 W4) := fun W u zs x g hW hu hx hg hz => by
    obtain ⟨v', W4, hr, g3, -, g4⟩ := hu.app x hx g 1 hg (by omega) hW.size (fun q e2 hq2 => by
      have h8 := (World.ownsRow.lt hu.row q e2).1
      have h9 := (HW.out.2.1 q hq2).lt
      have h7 := HBX.out.2.1.size
      omega)
    obtain ⟨a9, c9, rfl, -⟩ := row_at g3.row
    exact ⟨_, _, _, W4, hr, g3, hW.trans g4⟩
  have HLE : Hid (xs.length ≤ 300000000) := by rw [← HMX.out]; exact hxl
  unfold opv
  go_enter Try.func39, Try.ntmps39
  go_upto_region 1 with fail
  rw [HW2.out.1, HW2.out.2]
  clear HW2
  by_cases k6 : k = 6
  · have HG : Hid (Dk.ntd (xs.map (·.1)) ⟨k, two, ⟨sa.toArray⟩, ⟨sb.toArray⟩, n, da, dc, data, ca, cc, cs, fa, fn, fc⟩ = Dk.lss (xs.map (·.1)) sa) := by
      show Dk.ntd _ _ = _
      unfold Dk.ntd
      rw [k6]
      rfl
    rw [k6] at d0
    clear k6 hk
    go_wp2_with fail
    refine HPL.out.mono ?_
    rintro e Wf ⟨rfl, rfl⟩
    go_wp2_with fail
    refine (HLS.out W2 sa _ xs B (Below.refl _ _) (HWM.out W2 (Below.refl _ _)) HLE.out).mono ?_
    rintro e W3 ⟨a9, n9, c9, rfl, m3, b3, -⟩
    have H3 : Hid (WM W2.heap.size K W3 (.slice a9 n9 c9) (lsE xs sa) ∧ Below W2.heap.size W2 W3) := ⟨m3, b3⟩
    clear m3 b3
    go_wp2_with fail
    go_returns
    exact ⟨_, _, rfl, NtP.new H3.out.1 HBX.out.2.1 H3.out.2 HW.out.2.2, by rw [HG.out]; exact lsE_map sa xs⟩
  by_cases k1 : k = 1
  · have HG : Hid (Dk.ntd (xs.map (·.1)) ⟨k, two, ⟨sa.toArray⟩, ⟨sb.toArray⟩, n, da, dc, data, ca, cc, cs, fa, fn, fc⟩ = Dk.lss (xs.map (·.1)) sa ++ [Dk.wd0 sa []]) := by
      show Dk.ntd _ _ = _
      unfold Dk.ntd
      rw [k1]
      rfl
    rw [k1] at d0
    clear k1 k6 hk
    have HCK : Hid (∀ W, Below W2.heap.size W2 W → W.cell? ⟨p3, 2, none⟩ = some (.string ⟨sa.toArray⟩)) := fun W hW => (HBX.out.1.kept hW).cell 2 _ rfl
    have hwb : ∀ W, WB K W (Dk.wd0 sa [], .slice none 0 0, .slice none 0 0, .slice none 0 0) := fun W => ⟨Bs.nil _, Bs.nil _, Bs.nil _, kb_nil _, kb_nil _, kb_nil _⟩
    have hlz : (lsE xs sa).length ≤ 300000000 := by have := lsE_len xs sa; have := HLE.out; omega
    have HA1 : Hid (∀ (W : World) (a9 : Option Addr) (n9 c9 : Nat), Below W2.heap.size W2 W → WM W2.heap.size K W (.slice a9 n9 c9) (lsE xs sa) → ∃ a4 n4 c4 W4, (Builtin.append_ #[68, 68] 68 #[.slice a9 n9 c9, .slice (some ⟨W.heap.size, 0, none⟩) 1 1]).run Try.prog (W.alloc (.cells #[.string ⟨sa.toArray⟩, .slice none 0 0, .slice none 0 0, .bool false, .slice none 0 0, .bool false] 99)) = .ok (.slice a4 n4 c4) W4 ∧ WM W2.heap.size K W4 (.slice a4 n4 c4) (lsE xs sa ++ [(Dk.wd0 sa [], .slice none 0 0, .slice none 0 0, .slice none 0 0)]) ∧ Below W2.heap.size W2 W4) := fun W a9 n9 c9 hW hu => HAP.out _ _ _ _ _ (andThen hW (up0 _ _)) (hu.kept (up0 _ _)) (hwb _) (lb_new W (enW (Dk.wd0 sa [], .slice none 0 0, .slice none 0 0, .slice none 0 0)) 99) hlz
    have HA2 : Hid (∀ (V W : World) (a9 : Option Addr) (n9 c9 : Nat), Below W2.heap.size W2 W → Below (V.alloc (.cells #[.string ⟨sa.toArray⟩, .slice none 0 0, .slice none 0 0, .bool false, .slice none 0 0, .bool false] 99)).heap.size (V.alloc (.cells #[.string ⟨sa.toArray⟩, .slice none 0 0, .slice none 0 0, .bool false, .slice none 0 0, .bool false] 99)) W → WM W2.heap.size K W (.slice a9 n9 c9) (lsE xs sa) → ∃ a4 n4 c4 W4, (Builtin.append_ #[68, 68] 68 #[.slice a9 n9 c9, .slice (some ⟨V.heap.size, 0, none⟩) 1 1]).run Try.prog W = .ok (.slice a4 n4 c4) W4 ∧ WM W2.heap.size K W4 (.slice a4 n4 c4) (lsE xs sa ++ [(Dk.wd0 sa [], .slice none 0 0, .slice none 0 0, .slice none 0 0)]) ∧ Below W2.heap.size W2 W4) := fun V W a9 n9 c9 hW hV hu => HAP.out _ _ _ _ _ hW hu (hwb _) (LB.kept (lb_new V (enW (Dk.wd0 sa [], .slice none 0 0, .slice none 0 0, .slice none 0 0)) 99) hV) hlz
    clear hwb hlz
    go_wp2_with fail
    refine HPL.out.mono ?_
    rintro e Wf ⟨rfl, rfl⟩
    go_wp2_with fail
    go_region_held3 (fun w' => w'.cell? ⟨p3, 2, none⟩ = some (.string ⟨sa.toArray⟩)) (first | go_keep | (exact HCK.out _ b3) | (exact HCK.out _ b4))
      (first | (refine step_appRun rfl (.tmp 19) (.tmp 23) 68 rfl rfl rfl hr4 ?_) | (go_at_call 57; refine (HLS.out _ sa _ xs B ?_ ?_ HLE.out).mono ?_; (exact Below.drew (Below.refl _ _)); (exact HWM.out _ (Below.drew (Below.refl _ _))); rintro e w' ⟨a9, n9, c9, rfl, m3, b3, b5⟩; (obtain ⟨a4, n4, c4, W4, hr4, m4, b4⟩ := HA1.out w' a9 n9 c9 b3 m3)) | (go_at_call 57; refine (HLS.out _ sa _ xs B ?_ ?_ HLE.out).mono ?_; (exact Below.drew (up0 _ _)); (exact HWM.out _ (Below.drew (up0 _ _))); rintro e w' ⟨a9, n9, c9, rfl, m3, b3, b5⟩; (obtain ⟨a4, n4, c4, W4, hr4, m4, b4⟩ := HA2.out _ w' a9 n9 c9 b3 (andThen (Below.drew (Below.refl _ _)) b5) m3)) | (go_at_call 57; refine (HLS.out _ sa _ xs B ?_ ?_ HLE.out).mono ?_; (exact up (Below.drew (Below.refl _ _)) _); (exact HWM.out _ (up (Below.drew (Below.refl _ _)) _)); rintro e w' ⟨a9, n9, c9, rfl, m3, b3, b5⟩; (obtain ⟨a4, n4, c4, W4, hr4, m4, b4⟩ := HA2.out _ w' a9 n9 c9 b3 (andThen (Below.drew (Below.refl _ _)) b5) m3)))
    all_goals
      have H4 : Hid (WM W2.heap.size K W4 (.slice a4 n4 c4) (lsE xs sa ++ [(Dk.wd0 sa [], .slice none 0 0, .slice none 0 0, .slice none 0 0)]) ∧ Below W2.heap.size W2 W4) := ⟨m4, b4⟩
      clear hr4 m4 b4 m3 b3 b5 d0 d2
      go_wp2_with fail
      go_returns
      exact ⟨_, _, rfl, NtP.new H4.out.1 HBX.out.2.1 H4.out.2 HW.out.2.2, by rw [HG.out, List.map_append, lsE_map]; rfl⟩
  by_cases k7 : k = 7
  · have HG : Hid (Dk.ntd (xs.map (·.1)) ⟨k, two, ⟨sa.toArray⟩, ⟨sb.toArray⟩, n, da, dc, data, ca, cc, cs, fa, fn, fc⟩ = (xs.map (·.1)).map Dk.wsd) := by
      show Dk.ntd _ _ = _
      unfold Dk.ntd
      rw [k7]
      rfl
    rw [k7] at d0
    clear k1 k6 k7 hk
    have hm3 : m ≤ 300000000 := hxl
    go_wp2_with fail
    refine HPL.out.mono ?_
    rintro e Wf ⟨rfl, rfl⟩
    go_wp2_with fail
    clear d0 d2
    go_loopw [7] (fun i wr => ∃ (j : Nat) (ys : List WE), j ≤ m ∧ i = .int .i64 (j : Int) ∧ ys.length = m ∧ (∀ t (h : t < ys.length) (h2 : t < xs.length), ys[t].1 = if t < j then Dk.wsd xs[t].1 else xs[t].1) ∧ WM B K wr (.slice a0 m c0) ys ∧ IFr W2 wr (fun q => (Value.slice a0 m c0).ownBlock = some q)) (fun i _ => m - (intOf i).toNat)
    case atStart => exact ⟨0, xs, Nat.zero_le _, rfl, HMX.out.symm, (fun t h h2 => by rw [if_neg (Nat.not_lt_zero t)]), HWM.out W2 (Below.refl _ _), IFr.refl _ _⟩
    case round =>
      obtain ⟨j, ys, hj, rfl, hyl, hys, hwm, hfr⟩ := hrel
      have HY : Hid (ys.length = m ∧ (∀ t (h : t < ys.length) (h2 : t < xs.length), ys[t].1 = if t < j then Dk.wsd xs[t].1 else xs[t].1) ∧ WM B K wr (.slice a0 m c0) ys ∧ IFr W2 wr (fun q => (Value.slice a0 m c0).ownBlock = some q)) := ⟨hyl, hys, hwm, hfr⟩
      clear hyl hys hwm hfr
      by_cases hlt : j < m
      · obtain ⟨b, hb⟩ := HC3.out (List.ne_nil_of_length_pos (by rw [← HMX.out]; omega))
        subst hb
        have hjy : j < ys.length := by rw [HY.out.1]; exact hlt
        have HJY : Hid (j < ys.length) := hjy
        have hbK : ¬ K b := fun e => by
          obtain ⟨-, c9, hc9⟩ := HW.out.2.1 b e
          obtain ⟨cur, h2⟩ := Mg.row_type HW.out.1.row b rfl
          rw [hc9] at h2
          simp at h2
        have HBK : Hid (¬ K b) := hbK
        have hwm : WM B K wr (.slice (some ⟨b, 0, none⟩) ys.length c0) ys := by rw [HY.out.1]; exact HY.out.2.2.1
        have HWY : Hid (WM B K wr (.slice (some ⟨b, 0, none⟩) ys.length c0) ys) := hwm
        have hx0 := hwm.wb _ (List.getElem_mem hjy)
        obtain ⟨y0, y1, y2, y3, y4, y5⟩ := hwm.cells j hjy
        have hfz := fun i => World.ownsRow.frozenAt hwm.row (j * 6 + i)
        obtain ⟨x, hx⟩ : ∃ x, x = ys[j]'hjy := ⟨_, rfl⟩
        have HXE : Hid (x = ys[j]'hjy) := hx
        simp only [← hx] at y0 y1 y2 y3 y4 y5 hx0
        obtain ⟨a1, n1, c1, a2, n2, c2, a3, n3, c3, e1, e2, e3⟩ := hx0.sh
        obtain ⟨⟨xn, xd, xx, xb, xs9, xc⟩, v1, v2, v3⟩ := x
        simp only at e1 e2 e3 y0 y1 y2 y3 y4 y5
        subst e1 e2 e3
        have HX0 : Hid (WB K wr (⟨xn, xd, xx, xb, xs9, xc⟩, .slice a1 n1 c1, .slice a2 n2 c2, .slice a3 n3 c3)) := hx0
        clear hx hx0 hbK hwm y0 y1
        have z4 := hfz 4
        have z5 := hfz 5
        clear hfz
        cases xb with
        | false =>
          have HN : Hid (∀ t (h : t < ys.length) (h2 : t < xs.length), ys[t].1 = if t < j + 1 then Dk.wsd xs[t].1 else xs[t].1) := fun t h h2 => by
            have h9 := HY.out.2.1 t h h2
            by_cases e : t = j
            · subst e
              rw [if_neg (Nat.lt_irrefl _)] at h9
              rw [if_pos (Nat.lt_succ_self _), ← h9, ← HXE.out]
              rfl
            · rw [h9]
              by_cases e2 : t < j
              · rw [if_pos e2, if_pos (by omega)]
              · rw [if_neg e2, if_neg (by omega)]
          go_wp2_with fail
          go_roundw
          case rel => exact ⟨j + 1, ys, by omega, by go_num, HY.out.1, HN.out, HY.out.2.2.1, HY.out.2.2.2⟩
          case measure => simp [intOf]; omega
        | true =>
          obtain ⟨w1, f1⟩ := HWY.out.put HBK.out j 4 HJY.out (by decide) (.slice a2 n2 c2) (⟨xn, xd, xx, true, xx, xc⟩, .slice a1 n1 c1, .slice a2 n2 c2, .slice a2 n2 c2) (by rw [← HXE.out]; rfl) ⟨HX0.out.d, HX0.out.n, HX0.out.n, HX0.out.kd, HX0.out.kn, HX0.out.kn⟩
          have hx1 := w1.wb (⟨xn, xd, xx, true, xx, xc⟩, .slice a1 n1 c1, .slice a2 n2 c2, .slice a2 n2 c2) (List.mem_of_getElem? (by rw [List.getElem?_set_self HJY.out]))
          obtain ⟨w2, f2⟩ := w1.put HBK.out j 5 (by rw [List.length_set]; exact HJY.out) (by decide) (.bool true) (⟨xn, xd, xx, true, xx, true⟩, .slice a1 n1 c1, .slice a2 n2 c2, .slice a2 n2 c2) (by rw [List.getElem_set_self]; rfl) ⟨hx1.d, hx1.n, hx1.s, hx1.kd, hx1.kn, hx1.ks⟩
          rw [List.set_set] at w2
          have H9 : Hid ((ys.set j (⟨xn, xd, xx, true, xx, true⟩, .slice a1 n1 c1, .slice a2 n2 c2, .slice a2 n2 c2)).length = m ∧ (∀ t (h : t < (ys.set j (⟨xn, xd, xx, true, xx, true⟩, .slice a1 n1 c1, .slice a2 n2 c2, .slice a2 n2 c2)).length) (h2 : t < xs.length), (ys.set j (⟨xn, xd, xx, true, xx, true⟩, .slice a1 n1 c1, .slice a2 n2 c2, .slice a2 n2 c2))[t].1 = if t < j + 1 then Dk.wsd xs[t].1 else xs[t].1) ∧ WM B K ((wr.setCell ⟨b, j * 6 + 4, none⟩ (.slice a2 n2 c2)).setCell ⟨b, j * 6 + 5, none⟩ (.bool true)) (.slice (some ⟨b, 0, none⟩) m c0) (ys.set j (⟨xn, xd, xx, true, xx, true⟩, .slice a1 n1 c1, .slice a2 n2 c2, .slice a2 n2 c2)) ∧ IFr W2 ((wr.setCell ⟨b, j * 6 + 4, none⟩ (.slice a2 n2 c2)).setCell ⟨b, j * 6 + 5, none⟩ (.bool true)) (fun q => (Value.slice (some ⟨b, 0, none⟩) m c0).ownBlock = some q)) := by
            refine ⟨by rw [List.length_set]; exact HY.out.1, fun t h h2 => ?_, ?_, (HY.out.2.2.2.trans f1 fun q _ e => by rw [e]; rfl).trans f2 fun q _ e => by rw [e]; rfl⟩
            · have h3 : t < ys.length := by rw [List.length_set] at h; exact h
              have h9 := HY.out.2.1 t h3 h2
              by_cases e : j = t
              · subst e
                rw [List.getElem_set_self, if_pos (Nat.lt_succ_self _)]
                rw [if_neg (Nat.lt_irrefl _)] at h9
                rw [← h9, ← HXE.out]
                rfl
              · rw [List.getElem_set_ne e, h9]
                by_cases e2 : t < j
                · rw [if_pos e2, if_pos (by omega)]
                · rw [if_neg e2, if_neg (by omega)]
            · rw [List.length_set, HY.out.1] at w2
              exact w2
          clear w1 w2 f1 f2 hx1
          go_wp2_with fail
          go_roundw
          case rel => exact ⟨j + 1, _, by omega, by go_num, H9.out.1, H9.out.2.1, H9.out.2.2.1, H9.out.2.2.2⟩
          case measure => simp [intOf]; omega
      · have HE : Hid (ys.map (·.1) = (xs.map (·.1)).map Dk.wsd) := by
          show _ = _
          have hl := HY.out.1
          have hl2 := HMX.out
          refine List.ext_getElem (by simp; omega) fun t h1 h2 => ?_
          simp only [List.getElem_map]
          rw [HY.out.2.1 t (by simpa using h1) (by simpa using h2), if_pos (by simp at h1; omega)]
        have HN : Hid (NtP B K w (.slice a0 m c0) wr (.slice a0 m c0) ys) := ⟨HY.out.2.2.1.mono fun q e => .inl e, (IFr.kept HBX.out.2.1).trans HY.out.2.2.2 fun q _ e => e, fun q e => .inl e⟩
        go_wp2_with fail
        go_returns
        exact ⟨Value.slice a0 m c0, rfl, ys, HN.out, by rw [HG.out, HE.out]⟩
  have hkp : 2 ≤ k ∧ k ≤ 5 := by omega
  obtain ⟨iN, hpl⟩ := HP.out hkp.1 hkp.2
  obtain ⟨hi0, hnm⟩ := Dk.plc_some hpl
  have hi : iN < xs.length := by simpa using hi0
  obtain ⟨b, hb⟩ := HC3.out (List.ne_nil_of_length_pos (by omega))
  subst hb
  have epi : pi = (iN : Int) := by
    rw [HPI.out]
    unfold plcI
    rw [hpl]
  subst epi
  obtain rfl : m = xs.length := HMX.out
  have hbK : ¬ K b := fun e => by
    obtain ⟨-, c9, hc9⟩ := HW.out.2.1 b e
    obtain ⟨cur, h2⟩ := Mg.row_type HW.out.1.row b rfl
    rw [hc9] at h2
    simp at h2
  have HBK : Hid (¬ K b) := hbK
  have HI : Hid (iN < xs.length) := hi
  have HPL2 : Hid (Dk.plc (xs.map (·.1)) sa = some iN) := hpl
  have hx0 := (HWM.out W2 (Below.refl _ _)).wb _ (List.getElem_mem hi)
  obtain ⟨y0, y1, y2, y3, y4, y5⟩ := (HWM.out W2 (Below.refl _ _)).cells iN hi
  have hfz := fun j => World.ownsRow.frozenAt (HWM.out W2 (Below.refl _ _)).row (iN * 6 + j)
  obtain ⟨x, hx⟩ : ∃ x, x = xs[iN]'hi := ⟨_, rfl⟩
  have HXE : Hid (x = xs[iN]'hi) := hx
  simp only [← hx] at y0 y1 y2 y3 y4 y5 hx0
  obtain ⟨a1, n1, c1, a2, n2, c2, a3, n3, c3, e1, e2, e3⟩ := hx0.sh
  obtain ⟨⟨xn, xd, xx, xb, xs9, xc⟩, v1, v2, v3⟩ := x
  simp only at e1 e2 e3 y0 y1 y2 y3 y4 y5
  subst e1 e2 e3
  have HX0 : Hid (WB K W2 (⟨xn, xd, xx, xb, xs9, xc⟩, .slice a1 n1 c1, .slice a2 n2 c2, .slice a3 n3 c3)) := hx0
  have HWT : Hid (Dk.wat (xs.map (·.1)) iN = ⟨xn, xd, xx, xb, xs9, xc⟩) := by
    show Dk.wat _ _ = _
    rw [wat_map xs iN hi, ← HXE.out]
  unfold enS at y0
  clear hx hx0 hbK hpl hi0 hnm
  by_cases k3 : k = 3
  · have HG := ntd_k (xs.map (·.1)) ⟨k, two, ⟨sa.toArray⟩, ⟨sb.toArray⟩, n, da, dc, data, ca, cc, cs, fa, fn, fc⟩ ⟨by show 2 ≤ k; omega, by show k ≤ 4; omega⟩ HPL2.out
    simp only [HWT.out] at HG
    rw [if_neg (by omega), if_pos k3] at HG
    have HG2 : Hid (Dk.ntd (xs.map (·.1)) ⟨k, two, ⟨sa.toArray⟩, ⟨sb.toArray⟩, n, da, dc, data, ca, cc, cs, fa, fn, fc⟩ = (xs.map (·.1)).set iN ⟨xn, xd, xd, true, xs9, xc⟩) := HG
    obtain ⟨w1, f1⟩ := (HWM.out W2 (Below.refl _ _)).put HBK.out iN 2 HI.out (by decide) (.slice a1 n1 c1) (⟨xn, xd, xd, xb, xs9, xc⟩, .slice a1 n1 c1, .slice a1 n1 c1, .slice a3 n3 c3) (by rw [← HXE.out]; rfl) ⟨HX0.out.d, HX0.out.d, HX0.out.s, HX0.out.kd, HX0.out.kd, HX0.out.ks⟩
    have hx1 := w1.wb (⟨xn, xd, xd, xb, xs9, xc⟩, .slice a1 n1 c1, .slice a1 n1 c1, .slice a3 n3 c3) (List.mem_of_getElem? (by rw [List.getElem?_set_self HI.out]))
    obtain ⟨w2, f2⟩ := w1.put HBK.out iN 3 (by rw [List.length_set]; exact HI.out) (by decide) (.bool true) (⟨xn, xd, xd, true, xs9, xc⟩, .slice a1 n1 c1, .slice a1 n1 c1, .slice a3 n3 c3) (by rw [List.getElem_set_self]; rfl) ⟨hx1.d, hx1.n, hx1.s, hx1.kd, hx1.kn, hx1.ks⟩
    rw [List.set_set] at w2
    have H9 : Hid (NtP B K w (.slice (some ⟨b, 0, none⟩) xs.length c0) ((W2.setCell ⟨b, iN * 6 + 2, none⟩ (.slice a1 n1 c1)).setCell ⟨b, iN * 6 + 3, none⟩ (.bool true)) (.slice (some ⟨b, 0, none⟩) (xs.set iN (⟨xn, xd, xd, true, xs9, xc⟩, .slice a1 n1 c1, .slice a1 n1 c1, .slice a3 n3 c3)).length c0) (xs.set iN (⟨xn, xd, xd, true, xs9, xc⟩, .slice a1 n1 c1, .slice a1 n1 c1, .slice a3 n3 c3))) := NtP.old w2 HBX.out.2.1 (f1.trans f2 fun q _ e => e)
    rw [List.length_set] at H9
    have z2 := hfz 2
    have z3 := hfz 3
    rw [k3] at d0
    clear k1 k6 k7 k3 hk hkp HG w1 w2 f1 f2 hx1 hfz
    go_wp2_with fail
    refine HPL.out.mono ?_
    rintro e Wf ⟨rfl, rfl⟩
    go_wp2_with fail
    go_returns
    refine ⟨_, _, rfl, H9.out, ?_⟩
    rw [HG2.out, List.map_set]
  by_cases k2 : k = 2
  · have HG := ntd_k (xs.map (·.1)) ⟨k, two, ⟨sa.toArray⟩, ⟨sb.toArray⟩, n, da, dc, data, ca, cc, cs, fa, fn, fc⟩ ⟨by show 2 ≤ k; omega, by show k ≤ 4; omega⟩ HPL2.out
    simp only [HWT.out] at HG
    rw [if_pos k2] at HG
    have HG2 : Hid (Dk.ntd (xs.map (·.1)) ⟨k, two, ⟨sa.toArray⟩, ⟨sb.toArray⟩, n, da, dc, data, ca, cc, cs, fa, fn, fc⟩ = (xs.map (·.1)).set iN ⟨xn, xd ++ data, xx, xb, xs9, xc⟩) := HG
    have hxdl : xd.length ≤ 4194304 := by
      have h9 := HLN.out _ (List.getElem_mem HI.out)
      rw [← HXE.out] at h9
      exact h9
    have hddl := HDL.out k2
    have HCO : Hid (∀ W, Below W2.heap.size W2 W → Calls Try.prog 21 #[.slice a1 n1 c1] W fun e w' => ∃ b9 n9 c9, e = .returned (.slice b9 n9 c9) ∧ Own W.heap.size w' (.slice b9 n9 c9) xd ∧ Below W.heap.size W w') := fun W hW => (dlcopied_any _ xd W (HX0.out.d.kept hW) (by omega)).mono fun e w' ⟨v', h1, h2, h3⟩ => by
      obtain ⟨b9, c9, rfl, -⟩ := Mg.row_shape h2.row
      exact ⟨b9, _, c9, h1, h2, h3⟩
    have HAB : Hid (∀ (W W3 : World) (b9 : Option Addr) (n9 c9 : Nat), Below W2.heap.size W2 W → Below W.heap.size W W3 → Own W.heap.size W3 (.slice b9 n9 c9) xd → ∃ b8 n8 c8 W4, (Builtin.append_ #[30, 30] 30 #[.slice b9 n9 c9, .slice da data.length dc]).run Try.prog W3 = .ok (.slice b8 n8 c8) W4 ∧ Own W.heap.size W4 (.slice b8 n8 c8) (xd ++ data) ∧ Below W.heap.size W W4) := fun W W3 b9 n9 c9 hW h3 ho => by
      obtain ⟨v', W4, hr, ho4, hg, -⟩ := run_appB W3 30 W.heap.size _ xd ho _ data (HDB.out W3 (andThen (andThen HBX.out.2.1 hW) h3)) (by omega) h3.size
      obtain ⟨b8, c8, rfl, -⟩ := Mg.row_shape ho4.row
      exact ⟨b8, _, c8, W4, hr, ho4, h3.grown hg h3.size fun q e => (World.ownsRow.lt ho.row q e).1⟩
    have HCK : Hid (∀ W, Below W2.heap.size W2 W → W.cell? ⟨b, iN * 6 + 1, none⟩ = some (.slice a1 n1 c1) ∧ W.cell? ⟨p3, 5, none⟩ = some (.slice da data.length dc)) := fun W hW => by
      have h9 := ((HWM.out W hW).cells iN HI.out).2.1
      simp only [← HXE.out] at h9
      exact ⟨h9, (HBX.out.1.kept hW).cell 5 _ rfl⟩
    have HFZ : Hid (∀ W, Below W2.heap.size W2 W → W.frozen? ⟨b, iN * 6 + 1, none⟩ = false) := fun W hW => World.ownsRow.frozenAt (HWM.out W hW).row (iN * 6 + 1)
    have HFI : Hid (∀ (W W4 : World) (b8 : Option Addr) (n8 c8 : Nat), Below W2.heap.size W2 W → Own W.heap.size W4 (.slice b8 n8 c8) (xd ++ data) → Below W.heap.size W W4 → ∃ ys, NtP B K w (.slice (some ⟨b, 0, none⟩) xs.length c0) (W4.setCell ⟨b, iN * 6 + 1, none⟩ (.slice b8 n8 c8)) (.slice (some ⟨b, 0, none⟩) xs.length c0) ys ∧ ys.map (·.1) = (xs.map (·.1)).set iN ⟨xn, xd ++ data, xx, xb, xs9, xc⟩) := fun W W4 b8 n8 c8 hW ho hb4 => by
      have hb2 : Below W2.heap.size W2 W4 := andThen hW hb4
      have hsz := HBX.out.2.1.size
      have hsz2 := hW.size
      have wm := (HWM.out W4 hb2).mono (K2 := fun q => K q ∨ KT w.heap.size W4 q) fun q e => .inl e
      have hnb : ¬ (K b ∨ KT w.heap.size W4 b) := fun e => by
        rcases e with e | e
        · exact HBK.out e
        · exact wm.nk b rfl e
      have hx9 := (HX0.out.blk (w' := W4) fun q _ hq => hb2.block q hq).mono (K2 := fun q => K q ∨ KT w.heap.size W4 q) fun q e => .inl e
      obtain ⟨w1, f1⟩ := wm.put hnb iN 1 HI.out (by decide) (.slice b8 n8 c8) (⟨xn, xd ++ data, xx, xb, xs9, xc⟩, .slice b8 n8 c8, .slice a2 n2 c2, .slice a3 n3 c3) (by rw [← HXE.out]; rfl) ⟨ho.bs, hx9.n, hx9.s, fun q o' n' c' e => .inr (own_kb ho (by omega) q o' n' c' e), hx9.kn, hx9.ks⟩
      rw [List.length_set] at w1
      refine ⟨_, ⟨w1.mono fun q e => e.imp id fun e2 => e2.blk (set_other _ _ _ _ fun e3 => ?_), ((IFr.kept (andThen HBX.out.2.1 hb2)).trans f1 fun q _ e => by rw [e]; rfl), fun q e => .inl e⟩, by rw [List.map_set]⟩
      rw [e3] at e2
      exact wm.nk b rfl e2
    have z1 := hfz 1
    rw [k2] at d0
    clear k1 k6 k7 k3 k2 hk hkp HG hfz hxdl hddl z1 y0 y1 y2 y3 y4 y5
    go_wp2_with fail
    refine HPL.out.mono ?_
    rintro e Wf ⟨rfl, rfl⟩
    go_wp2_with fail
    refine wp_region_held_drew (S := fun _ : World => True) (by kernel_rfl) trivial (fun hH => ?_)
    obtain ⟨WV, hWV⟩ : ∃ x, x = W2.drew := ⟨_, rfl⟩
    have HBV : Hid (Below W2.heap.size W2 WV) := by rw [hWV]; exact Below.drew (Below.refl _ _)
    rw [← hWV]
    clear hWV
    have kv := HCK.out WV HBV.out
    have kv1 := kv.1
    have kv2 := kv.2
    have hi9 := HI.out
    refine zqk 0 rfl trivial ?_
    simp only [Act.put, zq1, zq2, zq3, zq4, zq5]
    refine zqk 1 rfl trivial ?_
    simp only [Act.put, zq1, zq2, zq3, zq4, zq5, zq6]
    refine zqk 2 rfl trivial ?_
    simp only [Act.put, zq1, zq2, zq3, zq4, zq5, zq6]
    refine zqk 3 rfl trivial ?_
    simp only [Act.put, zq1, zq2, zq3, zq4, zq5, zq6]
    refine zqk 4 rfl trivial ?_
    simp only [Act.put, zq1, zq2, zq3, zq4, zq5, zq6]
    refine zqk 5 rfl trivial ?_
    simp only [Act.put, zq1, zq2, zq3, zq4, zq5, zq6]
    refine zqk 8 rfl trivial ?_
    simp only [Act.put, zq1, zq2, zq3, zq4, zq5, zq6]
    refine zqm (S := fun W : World => W.cell? ⟨b, iN * 6 + 1, none⟩ = some (.slice a1 n1 c1) ∧ W.cell? ⟨p3, 5, none⟩ = some (.slice da data.length dc)) 6 13 rfl (Or.inl ⟨by rfl, by intro w9 h9; (try dsimp only at h9); go_simp; all_goals rfl⟩) kv ?_
    simp only [Act.put, zq1, zq2, zq3, zq4, zq5, zq6]
    refine wpAnyL_ready (rs := [7, 9]) (by kernel_rfl) (by simp) rfl ?_
    refine AllReadyL.cons rfl (fun K hK => ?_) (AllReadyL.cons rfl (fun K hK => ?_) AllReadyL.nil)
    · go_simp
      refine (HCO.out WV HBV.out).mono ?_
      rintro e w' ⟨b9, n9, c9, rfl, o9, hb'⟩
      obtain ⟨b8, n8, c8, W4, hr4, o4, b4⟩ := HAB.out WV w' b9 n9 c9 HBV.out hb' o9
      have kw := HCK.out w' (andThen HBV.out hb')
      have k4 := HCK.out W4 (andThen HBV.out b4)
      have q1 := kw.1
      have q2 := kw.2
      refine hK.out _ _ kw fun _ => ?_
      clear hK K
      try simp only [Act.put, zq1, zq2, zq3, zq4, zq5, zq6]
      refine wpAnyL_ready (rs := [9]) (by kernel_rfl) (by simp) rfl ?_
      refine AllReadyL.cons rfl (fun K hK => ?_) AllReadyL.nil
      refine step_run (v := .slice da data.length dc) (W := w') rfl (by go_simp; all_goals rfl) ?_
      refine hK.out _ _ kw fun _ => ?_
      clear hK K
      simp only [Act.put, zq1, zq2, zq3, zq4, zq5, zq6]
      refine wpAnyL_ready (rs := [10]) (by kernel_rfl) (by simp) rfl ?_
      refine AllReadyL.cons rfl (fun K hK => ?_) AllReadyL.nil
      refine step_appRun rfl (.tmp 95) (.tmp 97) 30 rfl rfl rfl hr4 ?_
      refine hK.out _ _ k4 fun _ => ?_
      clear hK K
      simp only [Act.put, zq1, zq2, zq3, zq4, zq5, zq6]
      refine wpAnyL_ready (rs := [11]) (by kernel_rfl) (by simp) rfl ?_
      refine AllReadyL.cons rfl (fun K hK => ?_) AllReadyL.nil
      refine step_run (v := .pointer (some ⟨b, iN * 6, none⟩)) (W := W4) rfl (by go_simp; all_goals rfl) ?_
      refine hK.out _ _ k4 fun _ => ?_
      clear hK K
      simp only [Act.put, zq1, zq2, zq3, zq4, zq5, zq6]
      refine wpAnyL_ready (rs := [12]) (by kernel_rfl) (by simp) rfl ?_
      refine AllReadyL.cons rfl (fun K hK => ?_) AllReadyL.nil
      refine step_run (v := .pointer (some ⟨b, iN * 6 + 1, none⟩)) (W := W4) rfl (by go_simp; all_goals rfl) ?_
      refine hK.out _ _ k4 fun _ => ?_
      clear hK K
      simp only [Act.put, zq1, zq2, zq3, zq4, zq5, zq6]
      refine wpAnyL_last (by kernel_rfl) ?_
      refine zqr 13 rfl (fun K hK => ?_)
      have q4 := k4.1
      have z4 := HFZ.out W4 (andThen HBV.out b4)
      go_simp
      refine hK.out _ _ trivial fun _ => ?_
      clear hK K
      try simp only [Act.put, zq1, zq2, zq3, zq4, zq5, zq6]
      refine wpAnyH_done (by kernel_rfl) ?_ _
      have H9 := HFI.out WV W4 b8 n8 c8 HBV.out o4 b4
      clear hr4 o4 b4 o9 hb' kw k4 q1 q2 q4 z4 hH
      go_wp2_with fail
      go_returns
      obtain ⟨ys, h1, h2⟩ := H9
      exact ⟨_, ys, rfl, h1, by rw [HG2.out, h2]⟩
    · refine step_run (v := .slice da data.length dc) (W := WV) rfl (by go_simp; all_goals rfl) ?_
      refine hK.out _ _ kv fun _ => ?_
      clear hK K
      simp only [Act.put, zq1, zq2, zq3, zq4, zq5, zq6]
      refine wpAnyL_ready (rs := [7]) (by kernel_rfl) (by simp) rfl ?_
      refine AllReadyL.cons rfl (fun K hK => ?_) AllReadyL.nil
      go_simp
      refine (HCO.out WV HBV.out).mono ?_
      rintro e w' ⟨b9, n9, c9, rfl, o9, hb'⟩
      obtain ⟨b8, n8, c8, W4, hr4, o4, b4⟩ := HAB.out WV w' b9 n9 c9 HBV.out hb' o9
      have kw := HCK.out w' (andThen HBV.out hb')
      have k4 := HCK.out W4 (andThen HBV.out b4)
      have q1 := kw.1
      have q2 := kw.2
      refine hK.out _ _ kw fun _ => ?_
      clear hK K
      try simp only [Act.put, zq1, zq2, zq3, zq4, zq5, zq6]
      refine wpAnyL_ready (rs := [10]) (by kernel_rfl) (by simp) rfl ?_
      refine AllReadyL.cons rfl (fun K hK => ?_) AllReadyL.nil
      refine step_appRun rfl (.tmp 95) (.tmp 97) 30 rfl rfl rfl hr4 ?_
      refine hK.out _ _ k4 fun _ => ?_
      clear hK K
      simp only [Act.put, zq1, zq2, zq3, zq4, zq5, zq6]
      refine wpAnyL_ready (rs := [11]) (by kernel_rfl) (by simp) rfl ?_
      refine AllReadyL.cons rfl (fun K hK => ?_) AllReadyL.nil
      refine step_run (v := .pointer (some ⟨b, iN * 6, none⟩)) (W := W4) rfl (by go_simp; all_goals rfl) ?_
      refine hK.out _ _ k4 fun _ => ?_
      clear hK K
      simp only [Act.put, zq1, zq2, zq3, zq4, zq5, zq6]
      refine wpAnyL_ready (rs := [12]) (by kernel_rfl) (by simp) rfl ?_
      refine AllReadyL.cons rfl (fun K hK => ?_) AllReadyL.nil
      refine step_run (v := .pointer (some ⟨b, iN * 6 + 1, none⟩)) (W := W4) rfl (by go_simp; all_goals rfl) ?_
      refine hK.out _ _ k4 fun _ => ?_
      clear hK K
      simp only [Act.put, zq1, zq2, zq3, zq4, zq5, zq6]
      refine wpAnyL_last (by kernel_rfl) ?_
      refine zqr 13 rfl (fun K hK => ?_)
      have q4 := k4.1
      have z4 := HFZ.out W4 (andThen HBV.out b4)
      go_simp
      refine hK.out _ _ trivial fun _ => ?_
      clear hK K
      try simp only [Act.put, zq1, zq2, zq3, zq4, zq5, zq6]
      refine wpAnyH_done (by kernel_rfl) ?_ _
      have H9 := HFI.out WV W4 b8 n8 c8 HBV.out o4 b4
      clear hr4 o4 b4 o9 hb' kw k4 q1 q2 q4 z4 hH
      go_wp2_with fail
      go_returns
      obtain ⟨ys, h1, h2⟩ := H9
      exact ⟨_, ys, rfl, h1, by rw [HG2.out, h2]⟩
  by_cases k4 : k = 4
  · have HG := ntd_k (xs.map (·.1)) ⟨k, two, ⟨sa.toArray⟩, ⟨sb.toArray⟩, n, da, dc, data, ca, cc, cs, fa, fn, fc⟩ ⟨by show 2 ≤ k; omega, by show k ≤ 4; omega⟩ HPL2.out
    have h4 := H4.out k4 iN HPL2.out
    simp only [HWT.out] at HG h4
    rw [if_neg (by omega), if_neg (by omega), if_pos h4] at HG
    obtain ⟨nn, rfl⟩ : ∃ nn : Nat, n = (nn : Int) := ⟨n.toNat, by omega⟩
    have HG2 : Hid (Dk.ntd (xs.map (·.1)) ⟨k, two, ⟨sa.toArray⟩, ⟨sb.toArray⟩, (nn : Int), da, dc, data, ca, cc, cs, fa, fn, fc⟩ = (xs.map (·.1)).set iN (Dk.wd0 sa (xd.take nn))) := by
      have e : ((nn : Int).toNat) = nn := by omega
      simp only [e] at HG
      exact HG
    obtain ⟨o7, c7, e7, g1, g2, -⟩ := HX0.out.d.shape
    simp only [Value.slice.injEq] at e7
    obtain ⟨rfl, rfl, rfl⟩ := e7
    simp only at g1 h4
    have HTK : Hid (∀ W, Below W2.heap.size W2 W → Bs W (.slice a1 nn c1) (xd.take nn)) := fun W hW => bs_take (HX0.out.d.kept hW) nn (by omega)
    have HFI : Hid (∀ WV, Below W2.heap.size W2 WV → NtP B K w (.slice (some ⟨b, 0, none⟩) xs.length c0) ((((((WV.setCell ⟨b, iN * 6, none⟩ (.string ⟨sa.toArray⟩)).setCell ⟨b, iN * 6 + 1, none⟩ (.slice a1 nn c1)).setCell ⟨b, iN * 6 + 2, none⟩ (.slice none 0 0)).setCell ⟨b, iN * 6 + 3, none⟩ (.bool false)).setCell ⟨b, iN * 6 + 4, none⟩ (.slice none 0 0)).setCell ⟨b, iN * 6 + 5, none⟩ (.bool false)) (.slice (some ⟨b, 0, none⟩) xs.length c0) (xs.set iN (Dk.wd0 sa (xd.take nn), .slice a1 nn c1, .slice none 0 0, .slice none 0 0))) := fun WV hW => by
      obtain ⟨w1, f1⟩ := (HWM.out WV hW).put6 HBK.out iN HI.out (Dk.wd0 sa (xd.take nn), .slice a1 nn c1, .slice none 0 0, .slice none 0 0) (.string ⟨sa.toArray⟩) (.slice a1 nn c1) (.slice none 0 0) (.bool false) (.slice none 0 0) (.bool false) rfl ⟨HTK.out WV hW, Bs.nil _, Bs.nil _, fun q off n' c' e => by
        simp only [Value.slice.injEq] at e
        exact HX0.out.kd q off xd.length c1 (by rw [e.1]), kb_nil _, kb_nil _⟩
      exact NtP.old w1 (andThen HBX.out.2.1 hW) f1
    have z0 := hfz 0
    have z1 := hfz 1
    have z2 := hfz 2
    have z3 := hfz 3
    have z4 := hfz 4
    have z5 := hfz 5
    simp only [Nat.add_zero] at z0
    have d4 := HBX.out.1.cell 4 _ rfl
    have t1 : ((nn : Int) ≤ (xd.length : Int)) = True := eq_true (by omega)
    have t2 : (0 : Int) ≤ (nn : Int) := by omega
    have t3 : (nn : Int) ≤ (c1 : Int) := by omega
    unfold maxLen at g2
    have hi9 := HI.out
    rw [k4] at d0
    clear k1 k6 k7 k3 k2 k4 hk hkp HG hfz h4 g1
    go_wp2_with fail
    refine HPL.out.mono ?_
    rintro e Wf ⟨rfl, rfl⟩
    go_wp2_with fail
    go_quiet (fail)
    go_wp2_with fail
    go_region
    all_goals
      go_wp2_with fail
      go_returns
      refine ⟨_, _, rfl, HFI.out _ (by repeat (first | exact Below.refl _ _ | refine Below.drew ?_ | refine bel_drewN ?_ _)), ?_⟩
      rw [HG2.out, List.map_set]
  have k5 : k = 5 := by omega
  have HG : Hid (Dk.ntd (xs.map (·.1)) ⟨k, two, ⟨sa.toArray⟩, ⟨sb.toArray⟩, n, da, dc, data, ca, cc, cs, fa, fn, fc⟩ = Dk.lss (Dk.lss (xs.map (·.1)) sa) sb ++ [Dk.wd0 sb xd]) := by
    show Dk.ntd _ _ = _
    unfold Dk.ntd
    rw [k5]
    simp only [HPL2.out, HWT.out]
    rfl
  have hi9 := HI.out
  have bz := up0 W2 (.cells #[.string { data := #[] }, .slice none 0 0, .slice none 0 0, .bool false, .slice none 0 0, .bool false] 99)
  have e1 := ((HWM.out _ bz).cells iN hi9).2.1
  simp only [← HXE.out] at e1
  have e3 := (HBX.out.1.kept bz).cell 3 _ rfl
  have d3 := HBX.out.1.cell 3 _ rfl
  rw [k5] at d0
  clear bz k1 k6 k7 k3 k2 k4 k5 hk hkp hfz y0 y2 y3 y4 y5
  go_wp2_with fail
  refine HPL.out.mono ?_
  rintro e Wf ⟨rfl, rfl⟩
  go_wp2_with fail
  go_region
  clear e1 e3 d0 d2 d3 y1
  have hv1 : Below W2.heap.size W2 (W2.alloc (.cells #[.string ⟨sb.toArray⟩, .slice a1 n1 c1, .slice none 0 0, .bool false, .slice none 0 0, .bool false] 99)).drew := Below.drew (up0 _ _)
  have hv2 : LB (W2.alloc (.cells #[.string ⟨sb.toArray⟩, .slice a1 n1 c1, .slice none 0 0, .bool false, .slice none 0 0, .bool false] 99)).drew W2.heap.size 99 (enW (Dk.wd0 sb xd, Value.slice a1 n1 c1, Value.slice none 0 0, Value.slice none 0 0)) := LB.kept (lb_new W2 (enW (Dk.wd0 sb xd, Value.slice a1 n1 c1, Value.slice none 0 0, Value.slice none 0 0)) 99) (Below.drew (Below.refl _ _))
  obtain ⟨V, hV⟩ : ∃ x, x = (W2.alloc (.cells #[.string ⟨sb.toArray⟩, .slice a1 n1 c1, .slice none 0 0, .bool false, .slice none 0 0, .bool false] 99)).drew := ⟨_, rfl⟩
  rw [← hV] at hv1 hv2 ⊢
  clear hV
  obtain ⟨g, hg⟩ : ∃ g, g = W2.heap.size := ⟨_, rfl⟩
  have HV : Hid (Below W2.heap.size W2 V ∧ LB V g 99 (enW (Dk.wd0 sb xd, Value.slice a1 n1 c1, Value.slice none 0 0, Value.slice none 0 0))) := ⟨hv1, by rw [hg]; exact hv2⟩
  rw [← hg]
  clear hg hv1 hv2
  have HCK : Hid (∀ W, Below V.heap.size V W → W.cell? ⟨p3, 2, none⟩ = some (.string ⟨sa.toArray⟩) ∧ W.cell? ⟨p3, 3, none⟩ = some (.string ⟨sb.toArray⟩) ∧ W.cell? ⟨g, 0, none⟩ = some (.string ⟨sb.toArray⟩) ∧ W.cell? ⟨g, 1, none⟩ = some (.slice a1 n1 c1) ∧ W.cell? ⟨g, 2, none⟩ = some (.slice none 0 0) ∧ W.cell? ⟨g, 3, none⟩ = some (.bool false) ∧ W.cell? ⟨g, 4, none⟩ = some (.slice none 0 0) ∧ W.cell? ⟨g, 5, none⟩ = some (.bool false)) := fun W hW => ⟨(HBX.out.1.kept (andThen HV.out.1 hW)).cell 2 _ rfl, (HBX.out.1.kept (andThen HV.out.1 hW)).cell 3 _ rfl, (HV.out.2.kept hW).cell 0 _ rfl, (HV.out.2.kept hW).cell 1 _ rfl, (HV.out.2.kept hW).cell 2 _ rfl, (HV.out.2.kept hW).cell 3 _ rfl, (HV.out.2.kept hW).cell 4 _ rfl, (HV.out.2.kept hW).cell 5 _ rfl⟩
  have hwb : ∀ W, Below W2.heap.size W2 W → WB K W (Dk.wd0 sb xd, Value.slice a1 n1 c1, Value.slice none 0 0, Value.slice none 0 0) := fun W hW => ⟨HX0.out.d.kept hW, Bs.nil _, Bs.nil _, HX0.out.kd, kb_nil _, kb_nil _⟩
  have hlz : (lsE (lsE xs sa) sb).length ≤ 300000000 := by
    have h1 := lsE_len xs sa
    have h2 := lsE_len (lsE xs sa) sb
    have h3 := HLE.out
    omega
  have hlz1 : (lsE xs sa).length ≤ 300000000 := by
    have h1 := lsE_len xs sa
    have h3 := HLE.out
    omega
  have HKV : Hid (∀ W, Below V.heap.size V W → ∀ q, K q → q < V.heap.size ∧ q < W.heap.size) := fun W hW q hq => by
    have h1 := (HW.out.2.1 q hq).lt
    have h2 := HBX.out.2.1.size
    have h3 := hW.size
    have h4 := HV.out.1.size
    exact ⟨by omega, by omega⟩
  have HLA : Hid (∀ W, Below V.heap.size V W → Calls Try.prog 57 #[.slice (some ⟨b, 0, none⟩) xs.length c0, .string ⟨sa.toArray⟩] W fun e w' => ∃ a9 n9 c9, e = .returned (.slice a9 n9 c9) ∧ WM V.heap.size K w' (.slice a9 n9 c9) (lsE xs sa) ∧ Below V.heap.size V w' ∧ Below W.heap.size W w') := fun W hW => (dlless_any B K _ xs sa W (HWM.out W (andThen HV.out.1 hW)) (by have := HLE.out; omega) (fun q hq => (HKV.out W hW q hq).2)).mono fun e w' ⟨v', h1, h2, h3⟩ => by
    obtain ⟨a9, c9, rfl, -⟩ := row_at h2.row
    exact ⟨_, _, _, h1, h2.low hW.size, andThen hW h3, h3⟩
  have HLB : Hid (∀ (W : World) (a9 : Option Addr) (n9 c9 : Nat), Below V.heap.size V W → WM V.heap.size K W (.slice a9 n9 c9) (lsE xs sa) → Calls Try.prog 57 #[.slice a9 n9 c9, .string ⟨sb.toArray⟩] W fun e w' => ∃ a8 n8 c8, e = .returned (.slice a8 n8 c8) ∧ WM V.heap.size K w' (.slice a8 n8 c8) (lsE (lsE xs sa) sb) ∧ Below V.heap.size V w' ∧ Below W.heap.size W w') := fun W a9 n9 c9 hW hm => (dlless_any V.heap.size K _ (lsE xs sa) sb W hm (by omega) (fun q hq => (HKV.out W hW q hq).2)).mono fun e w' ⟨v', h1, h2, h3⟩ => by
    obtain ⟨a9, c9, rfl, -⟩ := row_at h2.row
    exact ⟨_, _, _, h1, h2.low hW.size, andThen hW h3, h3⟩
  have HA2 : Hid (∀ (q : Nat) (W : World) (a9 : Option Addr) (n9 c9 : Nat), Below V.heap.size V W → LB W q 99 (enW (Dk.wd0 sb xd, Value.slice a1 n1 c1, Value.slice none 0 0, Value.slice none 0 0)) → WM V.heap.size K W (.slice a9 n9 c9) (lsE (lsE xs sa) sb) → ∃ a4 n4 c4 W4, (Builtin.append_ #[68, 68] 68 #[.slice a9 n9 c9, .slice (some ⟨q, 0, none⟩) 1 1]).run Try.prog W = .ok (.slice a4 n4 c4) W4 ∧ WM V.heap.size K W4 (.slice a4 n4 c4) (lsE (lsE xs sa) sb ++ [(Dk.wd0 sb xd, Value.slice a1 n1 c1, Value.slice none 0 0, Value.slice none 0 0)]) ∧ Below V.heap.size V W4) := fun p W a9 n9 c9 hW hp hu => by
    obtain ⟨v', W4, hr, g3, -, g4⟩ := hu.app (Dk.wd0 sb xd, Value.slice a1 n1 c1, Value.slice none 0 0, Value.slice none 0 0) (hwb _ (andThen HV.out.1 hW)) p 1 hp (by omega) hW.size (fun q e2 hq2 => by
      have h8 := (World.ownsRow.lt hu.row q e2).1
      have h9 := (HKV.out W hW q hq2).1
      omega)
    obtain ⟨a9, c9, rfl, -⟩ := row_at g3.row
    exact ⟨_, _, _, W4, hr, g3, hW.trans g4⟩
  have HA1 : Hid (∀ (W : World) (a9 : Option Addr) (n9 c9 : Nat), Below V.heap.size V W → WM V.heap.size K W (.slice a9 n9 c9) (lsE (lsE xs sa) sb) → ∃ a4 n4 c4 W4, (Builtin.append_ #[68, 68] 68 #[.slice a9 n9 c9, .slice (some ⟨W.heap.size, 0, none⟩) 1 1]).run Try.prog (W.alloc (.cells #[.string ⟨sb.toArray⟩, .slice a1 n1 c1, .slice none 0 0, .bool false, .slice none 0 0, .bool false] 99)) = .ok (.slice a4 n4 c4) W4 ∧ WM V.heap.size K W4 (.slice a4 n4 c4) (lsE (lsE xs sa) sb ++ [(Dk.wd0 sb xd, Value.slice a1 n1 c1, Value.slice none 0 0, Value.slice none 0 0)]) ∧ Below V.heap.size V W4) := fun W a9 n9 c9 hW hu => HA2.out _ _ _ _ _ (andThen hW (up0 _ _)) (lb_new W (enW (Dk.wd0 sb xd, Value.slice a1 n1 c1, Value.slice none 0 0, Value.slice none 0 0)) 99) (hu.kept (up0 _ _))
  have hl1n : ∀ U : World, LB (U.alloc (.cells #[.string ⟨sb.toArray⟩, .slice a1 n1 c1, .slice none 0 0, .bool false, .slice none 0 0, .bool false] 99)) U.heap.size 99 (enW (Dk.wd0 sb xd, Value.slice a1 n1 c1, Value.slice none 0 0, Value.slice none 0 0)) := fun U => lb_new U (enW (Dk.wd0 sb xd, Value.slice a1 n1 c1, Value.slice none 0 0, Value.slice none 0 0)) 99
  have HL1 : Hid (∀ U : World, LB (U.alloc (.cells #[.string ⟨sb.toArray⟩, .slice a1 n1 c1, .slice none 0 0, .bool false, .slice none 0 0, .bool false] 99)) U.heap.size 99 (enW (Dk.wd0 sb xd, Value.slice a1 n1 c1, Value.slice none 0 0, Value.slice none 0 0))) := hl1n
  have ck := HCK.out V (Below.refl _ _)
  obtain ⟨ck1, ck2, ck3, ck4, ck5, ck6, ck7, ck8⟩ := ck
  clear hwb hlz hlz1 hl1n
  go_wp2_with fail
  obtain ⟨WV, hWV⟩ : ∃ x, x = V.drew := ⟨_, rfl⟩
  have HBV : Hid (Below V.heap.size V WV) := by rw [hWV]; exact Below.drew (Below.refl _ _)
  refine wp_region_held_drew (S := fun w' => w'.cell? ⟨p3, 2, none⟩ = some (.string ⟨sa.toArray⟩) ∧ w'.cell? ⟨p3, 3, none⟩ = some (.string ⟨sb.toArray⟩) ∧ w'.cell? ⟨g, 0, none⟩ = some (.string ⟨sb.toArray⟩) ∧ w'.cell? ⟨g, 1, none⟩ = some (.slice a1 n1 c1) ∧ w'.cell? ⟨g, 2, none⟩ = some (.slice none 0 0) ∧ w'.cell? ⟨g, 3, none⟩ = some (.bool false) ∧ w'.cell? ⟨g, 4, none⟩ = some (.slice none 0 0) ∧ w'.cell? ⟨g, 5, none⟩ = some (.bool false)) (by kernel_rfl) (HCK.out _ (Below.drew (Below.refl _ _))) (fun hH => ?_)
  rw [← hWV]
  clear hWV
  have kv := HCK.out WV HBV.out
  refine zqk 0 rfl kv ?_
  try simp only [Act.put, zq1, zq2, zq3, zq4, zq5]
  refine zqk 1 rfl kv ?_
  try simp only [Act.put, zq1, zq2, zq3, zq4, zq5, zq6]
  refine zqk 2 rfl kv ?_
  try simp only [Act.put, zq1, zq2, zq3, zq4, zq5, zq6]
  refine zqk 4 rfl kv ?_
  try simp only [Act.put, zq1, zq2, zq3, zq4, zq5, zq6]
  refine zqk 5 rfl kv ?_
  try simp only [Act.put, zq1, zq2, zq3, zq4, zq5, zq6]
  refine zqk 7 rfl kv ?_
  try simp only [Act.put, zq1, zq2, zq3, zq4, zq5, zq6]
  refine wpAnyH_ready (rs := [3, 8]) (by kernel_rfl) (by simp) (AllReadyH.cons rfl (fun K9 hK => ?_) (AllReadyH.cons rfl (fun K9 hK => ?_) AllReadyH.nil))
  · go_simp
    refine (HLA.out _ HBV.out).mono ?_
    rintro e w1 ⟨a9, n9, c9, rfl, m3, b3, b5⟩
    refine hK.out _ _ (HCK.out _ b3) fun _ => ?_
    clear hK K9
    try simp only [Act.put, zq1, zq2, zq3, zq4, zq5, zq6]
    refine wpAnyH_ready (rs := [6, 8]) (by kernel_rfl) (by simp) (AllReadyH.cons rfl (fun K9 hK => ?_) (AllReadyH.cons rfl (fun K9 hK => ?_) AllReadyH.nil))
    · go_simp
      refine (HLB.out _ _ _ _ b3 m3).mono ?_
      rintro e w2 ⟨a8, n8, c8, rfl, m6, b6, b7⟩
      obtain ⟨a4, n4, c4, W4, hr4, m4, b4⟩ := HA1.out w2 a8 n8 c8 b6 m6
      refine hK.out _ _ (HCK.out _ b6) fun _ => ?_
      clear hK K9
      try simp only [Act.put, zq1, zq2, zq3, zq4, zq5, zq6]
      refine zqr 8 rfl (fun K9 hK => ?_)
      go_simp
      refine hK.out _ _ (HCK.out _ (andThen b6 (up0 _ _))) fun _ => ?_
      clear hK K9
      try simp only [Act.put, zq1, zq2, zq3, zq4, zq5, zq6]
      refine zqr 9 rfl (fun K9 hK => ?_)
      refine step_appRun rfl (.tmp 44) (.tmp 46) 68 rfl rfl rfl hr4 ?_
      refine hK.out _ _ (HCK.out _ b4) fun _ => ?_
      clear hK K9
      try simp only [Act.put, zq1, zq2, zq3, zq4, zq5, zq6]
      refine zqr 10 rfl (fun K9 hK => ?_)
      go_simp
      refine hK.out _ _ (HCK.out _ b4) fun _ => ?_
      clear hK K9
      try simp only [Act.put, zq1, zq2, zq3, zq4, zq5, zq6]
      refine wpAnyH_done (by kernel_rfl) ?_ _
      have H4 : Hid (WM V.heap.size K W4 (.slice a4 n4 c4) (lsE (lsE xs sa) sb ++ [(Dk.wd0 sb xd, Value.slice a1 n1 c1, Value.slice none 0 0, Value.slice none 0 0)]) ∧ Below V.heap.size V W4) := ⟨m4, b4⟩
      clear hr4 m4 b4 m3 b3 b5 m6 b6 b7 kv hH
      go_wp2_with fail
      go_returns
      exact ⟨_, _, rfl, NtP.new H4.out.1 (andThen HBX.out.2.1 HV.out.1) H4.out.2 HW.out.2.2, by rw [HG.out, List.map_append, lsE_map, lsE_map]; rfl⟩
    · go_simp
      refine hK.out _ _ (HCK.out _ (andThen b3 (up0 _ _))) fun _ => ?_
      clear hK K9
      try simp only [Act.put, zq1, zq2, zq3, zq4, zq5, zq6]
      refine zqr 6 rfl (fun K9 hK => ?_)
      go_simp
      refine (HLB.out _ _ _ _ (andThen b3 (up0 _ _)) (m3.kept (up0 _ _))).mono ?_
      rintro e w2 ⟨a8, n8, c8, rfl, m6, b6, b7⟩
      obtain ⟨a4, n4, c4, W4, hr4, m4, b4⟩ := HA2.out _ w2 a8 n8 c8 b6 (LB.kept (HL1.out w1) b7) m6
      refine hK.out _ _ (HCK.out _ b6) fun _ => ?_
      clear hK K9
      try simp only [Act.put, zq1, zq2, zq3, zq4, zq5, zq6]
      refine zqr 9 rfl (fun K9 hK => ?_)
      refine step_appRun rfl (.tmp 44) (.tmp 46) 68 rfl rfl rfl hr4 ?_
      refine hK.out _ _ (HCK.out _ b4) fun _ => ?_
      clear hK K9
      try simp only [Act.put, zq1, zq2, zq3, zq4, zq5, zq6]
      refine zqr 10 rfl (fun K9 hK => ?_)
      go_simp
      refine hK.out _ _ (HCK.out _ b4) fun _ => ?_
      clear hK K9
      try simp only [Act.put, zq1, zq2, zq3, zq4, zq5, zq6]
      refine wpAnyH_done (by kernel_rfl) ?_ _
      have H4 : Hid (WM V.heap.size K W4 (.slice a4 n4 c4) (lsE (lsE xs sa) sb ++ [(Dk.wd0 sb xd, Value.slice a1 n1 c1, Value.slice none 0 0, Value.slice none 0 0)]) ∧ Below V.heap.size V W4) := ⟨m4, b4⟩
      clear hr4 m4 b4 m3 b3 b5 m6 b6 b7 kv hH
      go_wp2_with fail
      go_returns
      exact ⟨_, _, rfl, NtP.new H4.out.1 (andThen HBX.out.2.1 HV.out.1) H4.out.2 HW.out.2.2, by rw [HG.out, List.map_append, lsE_map, lsE_map]; rfl⟩
  · go_simp
    refine hK.out _ _ (HCK.out _ (andThen HBV.out (up0 _ _))) fun _ => ?_
    clear hK K9
    try simp only [Act.put, zq1, zq2, zq3, zq4, zq5, zq6]
    refine zqr 3 rfl (fun K9 hK => ?_)
    go_simp
    refine (HLA.out _ (andThen HBV.out (up0 _ _))).mono ?_
    rintro e w1 ⟨a9, n9, c9, rfl, m3, b3, b5⟩
    refine hK.out _ _ (HCK.out _ b3) fun _ => ?_
    clear hK K9
    try simp only [Act.put, zq1, zq2, zq3, zq4, zq5, zq6]
    have hl1 := LB.kept (HL1.out WV) b5
    refine zqr 6 rfl (fun K9 hK => ?_)
    go_simp
    refine (HLB.out _ _ _ _ b3 m3).mono ?_
    rintro e w2 ⟨a8, n8, c8, rfl, m6, b6, b7⟩
    obtain ⟨a4, n4, c4, W4, hr4, m4, b4⟩ := HA2.out _ w2 a8 n8 c8 b6 (LB.kept hl1 b7) m6
    refine hK.out _ _ (HCK.out _ b6) fun _ => ?_
    clear hK K9
    try simp only [Act.put, zq1, zq2, zq3, zq4, zq5, zq6]
    refine zqr 9 rfl (fun K9 hK => ?_)
    refine step_appRun rfl (.tmp 44) (.tmp 46) 68 rfl rfl rfl hr4 ?_
    refine hK.out _ _ (HCK.out _ b4) fun _ => ?_
    clear hK K9
    try simp only [Act.put, zq1, zq2, zq3, zq4, zq5, zq6]
    refine zqr 10 rfl (fun K9 hK => ?_)
    go_simp
    refine hK.out _ _ (HCK.out _ b4) fun _ => ?_
    clear hK K9
    try simp only [Act.put, zq1, zq2, zq3, zq4, zq5, zq6]
    refine wpAnyH_done (by kernel_rfl) ?_ _
    have H4 : Hid (WM V.heap.size K W4 (.slice a4 n4 c4) (lsE (lsE xs sa) sb ++ [(Dk.wd0 sb xd, Value.slice a1 n1 c1, Value.slice none 0 0, Value.slice none 0 0)]) ∧ Below V.heap.size V W4) := ⟨m4, b4⟩
    clear hl1 hr4 m4 b4 m3 b3 b5 m6 b6 b7 kv hH
    go_wp2_with fail
    go_returns
    exact ⟨_, _, rfl, NtP.new H4.out.1 (andThen HBX.out.2.1 HV.out.1) H4.out.2 HW.out.2.2, by rw [HG.out, List.map_append, lsE_map, lsE_map]; rfl⟩
end Go.Proofs.Ytjepeeopjjnglaa
