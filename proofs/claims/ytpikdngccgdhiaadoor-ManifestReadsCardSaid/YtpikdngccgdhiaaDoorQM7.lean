import Derived.Deep.MidRow
import Derived.Test.YtpikdngccgdhiaaDoorQM6
import Derived.Test.YtpikdngccgdhiaaDoorQM4
/-
  ManifestReads: rows of segments written over.
-/
namespace Go.Proofs.YtpikdngccgdhiaaDoor
open Go Go.RowKit
open Wb

def markS : Sg := ⟨-7, 0, 0⟩
def filS (X : List Sg) (k : Nat) : List Sg := List.replicate k markS ++ X.drop k
theorem filS_len {X : List Sg} {k : Nat} (h : k ≤ X.length) : (filS X k).length = X.length := by
  unfold filS
  rw [List.length_append, List.length_replicate, List.length_drop]
  omega
theorem filS_set {X : List Sg} {k : Nat} (h : k < X.length) : (filS X k).set k markS = filS X (k + 1) := by
  unfold filS
  refine List.ext_getElem? fun p => ?_
  rw [List.getElem?_set]
  by_cases hp : k = p
  · subst hp
    rw [if_pos rfl, if_pos (by rw [List.length_append, List.length_replicate, List.length_drop]; omega), List.getElem?_append_left (by rw [List.length_replicate]; omega), List.getElem?_replicate, if_pos (by omega)]
  · rw [if_neg hp]
    by_cases hlt : p < k
    · rw [List.getElem?_append_left (by rw [List.length_replicate]; omega), List.getElem?_append_left (by rw [List.length_replicate]; omega), List.getElem?_replicate, List.getElem?_replicate, if_pos hlt, if_pos (by omega)]
    · rw [List.getElem?_append_right (by rw [List.length_replicate]; omega), List.getElem?_append_right (by rw [List.length_replicate]; omega), List.length_replicate, List.length_replicate, List.getElem?_drop, List.getElem?_drop]
      congr 1
      omega
theorem filS_zero (X : List Sg) : filS X 0 = X := by simp [filS]
theorem filS_end (X : List Sg) : filS X X.length = List.replicate X.length markS := by simp [filS]
theorem flat_set : ∀ (l : List Sg) (k : Nat) (m : Sg), k < l.length → (((l.flatMap sgc).set (k * 3) (.int .i64 m.n)).set (k * 3 + 1) (.int .i64 m.s)).set (k * 3 + 2) (.int .i64 m.c) = (l.set k m).flatMap sgc
  | [], k, m, h => by simp at h
  | s :: r, 0, m, _ => by simp [sgc]
  | s :: r, k + 1, m, h => by
    have ih := flat_set r k m (by simpa using h)
    rw [List.set_cons_succ, List.flatMap_cons, List.flatMap_cons, ← ih, show (k + 1) * 3 = k * 3 + 3 by omega]
    simp [sgc]
theorem SgR.fill {B : Nat} {w : World} {a : Option Addr} {cap : Nat} {X : List Sg} {k : Nat} (h : SgR B w (.slice a X.length cap) (filS X k)) (hk : k < X.length) :
    ∃ g, a = some ⟨g, 0, none⟩ ∧ w.there g (k * 3) 3 ∧ SgR B (w.setCells g (k * 3) [.int .i64 (-7), .int .i64 0, .int .i64 0]) (.slice a X.length cap) (filS X (k + 1)) ∧ w.grownBy (w.setCells g (k * 3) [.int .i64 (-7), .int .i64 0, .int .i64 0]) (some g) ∧ B ≤ g := by
  have hl : (filS X k).length = X.length := filS_len (by omega)
  unfold SgR at h ⊢
  rw [hl] at h
  rcases h.2 with ⟨_, h0⟩ | ⟨g, cap', cur, e, hBg, hg, hnc, hcm, hcs, htk⟩
  · omega
  · simp only [Value.slice.injEq, true_and] at e
    obtain ⟨rfl, rfl⟩ := e
    have s1 := World.ownsRow.stored h (k * 3) (.int .i64 (-7))
    have s2 := World.ownsRow.stored s1.1 (k * 3 + 1) (.int .i64 0)
    have s3 := World.ownsRow.stored s2.1 (k * 3 + 2) (.int .i64 0)
    have e9 := flat_set (filS X k) k markS (by omega)
    have e8 : ((((filS X k).flatMap sgc).set (k * 3) (.int .i64 (-7))).set (k * 3 + 1) (.int .i64 0)).set (k * 3 + 2) (.int .i64 0) = (filS X (k + 1)).flatMap sgc := by
      rw [filS_set hk] at e9
      exact e9
    have s3' := s3.1
    rw [e8] at s3'
    refine ⟨g, rfl, fun j hj => ?_, ?_, ?_, hBg⟩
    · have hfz := World.ownsRow.frozenAt h (k * 3 + j)
      refine ⟨?_, hfz⟩
      have hlf : (filS X k |>.flatMap sgc).length = X.length * 3 := by rw [flat_sgc_len, hl]
      have hc := h.cellAt (k * 3 + j) (by omega)
      rw [hc, List.getElem?_eq_getElem (by omega)]
      rfl
    · rw [filS_len (by omega)]
      exact s3'
    · exact ⟨rfl, rfl, rfl, Nat.le_trans s1.2.size (Nat.le_trans s2.2.size s3.2.size), fun q hq hn => ((s3.2.block q (Nat.lt_of_lt_of_le hq (Nat.le_trans s1.2.size s2.2.size)) hn).trans (s2.2.block q (Nat.lt_of_lt_of_le hq s1.2.size) hn)).trans (s1.2.block q hq hn)⟩
end Go.Proofs.YtpikdngccgdhiaaDoor

/-
  ManifestReads: append of marks onto rows of marks (segments).
-/
namespace Go.Proofs.YtpikdngccgdhiaaDoor
open Go Go.RowKit
open Wb

def pat (n : Nat) : List Value := (List.replicate n markS).flatMap sgc
theorem pat_len (n : Nat) : (pat n).length = n * 3 := by unfold pat; rw [flat_sgc_len, List.length_replicate]
def cellM (p : Nat) : Value := if p % 3 = 0 then .int .i64 (-7) else .int .i64 0
theorem pat_get : ∀ (n p : Nat), p < n * 3 → (pat n)[p]? = some (cellM p)
  | 0, p, h => by omega
  | n + 1, p, h => by
    have e : pat (n + 1) = .int .i64 (-7) :: .int .i64 0 :: .int .i64 0 :: pat n := by simp [pat, List.replicate_succ, sgc, markS]
    rw [e]
    match p, h with
    | 0, _ => rfl
    | 1, _ => rfl
    | 2, _ => rfl
    | q + 3, h =>
      simp only [List.getElem?_cons_succ]
      rw [pat_get n q (by omega)]
      unfold cellM
      rw [show (q + 3) % 3 = q % 3 by omega]
theorem pat_add (n m : Nat) : pat n ++ pat m = pat (n + m) := by
  unfold pat
  rw [← List.flatMap_append, List.replicate_append_replicate]
theorem pat_one (n : Nat) : ∀ u ∈ pat n, u.oneCell' = true := fun u hu => by
  unfold pat at hu
  simp only [List.mem_flatMap, sgc, List.mem_cons, List.not_mem_nil, or_false] at hu
  obtain ⟨s, _, rfl | rfl | rfl⟩ := hu <;> rfl
/-- a row of n marks -/
def MkR (B : Nat) (w : World) (v : Value) (n : Nat) : Prop := w.ownsRow B 46 3 v n (pat n)
theorem mkR_of {B : Nat} {w : World} {v : Value} {n : Nat} (h : SgR B w v (List.replicate n markS)) : MkR B w v n := by
  unfold SgR at h
  rw [List.length_replicate] at h
  exact h
theorem MkR.sg {B : Nat} {w : World} {v : Value} {n : Nat} (h : MkR B w v n) : SgR B w v (List.replicate n markS) := by
  unfold SgR
  rw [List.length_replicate]
  exact h
theorem MkR.block {B : Nat} {w w' : World} {v : Value} {n : Nat} (h : MkR B w v n) (hg : ∀ g, v.ownBlock = some g → w'.heap[g]? = w.heap[g]?) : MkR B w' v n := mkR_of (h.sg.block hg)
theorem append_marksS {P : Program} (w : World) (B : Nat) (t ty : TypeId) (hinfo : (P.info? 46).map (fun i => (i.zero, i.size, i.bytes)) = some (some (.agg #[.int .i64 0, .int .i64 0, .int .i64 0]), 3, 24)) (ht : P.underlying t = some (.slice 46))
    (v : Value) (k m : Nat) (h : MkR B w v k) (gx cx : Nat) (hx : ∀ (j : Nat) (u : Value), (pat m)[j]? = some u → w.cell? ⟨gx, j, none⟩ = some u) (hmax : (k + m) * 24 ≤ 140737488355328) (hB : B ≤ w.heap.size) :
    ∃ v' w', (Builtin.append_ #[t, t] ty #[v, .slice (some ⟨gx, 0, none⟩) m cx]).run P w = .ok v' w' ∧ MkR B w' v' (k + m) ∧ w.grownBy w' v.ownBlock ∧ (v'.ownBlock = v.ownBlock ∨ v'.ownBlock = some w.heap.size) ∧
      ∀ (u : Value) (k' : Nat), MkR B w u k' → MkR B w' u k' := by
  obtain ⟨i0, hi, hz0, hz1, hz2⟩ := info_partsM hinfo
  have hnews : ∀ j u, (pat m)[j]? = some u → w.cell? ((⟨gx, 0, none⟩ : Addr).add j) = some u := fun j u hj => by
    rw [Addr.add_lit, Nat.zero_add]
    exact hx j u hj
  obtain ⟨v', w', hr, h2, h3, _, h5⟩ := run_append_own_at (P := P) w B t ty 46 i0 _ 3 24 ht hi hz0 hz1 hz2 rfl (by decide) v k (pat k) h ⟨gx, 0, none⟩ m cx (pat m) (pat_len m) hnews (pat_one m) (by unfold maxLen; omega) hmax hB
  rw [pat_add] at h2
  refine ⟨v', w', hr, h2, h3, h5, fun u k' hu => ?_⟩
  by_cases hub : u.ownBlock = v.ownBlock
  · rcases hu.2 with ⟨rfl, h0⟩ | ⟨g, cap, cur, rfl, hbg, hg, hnc, hcm, hcs, htk⟩
    · exact ⟨hu.1, .inl ⟨rfl, h0⟩⟩
    · rcases h.2 with ⟨rfl, _⟩ | ⟨g', cap', cur', rfl, hbg', hg', hnc', hcm', hcs', htk'⟩
      · cases hub
      · obtain rfl : g = g' := by simpa [Value.ownBlock] using hub
        obtain rfl : cur = cur' := by
          have := hg.symm.trans hg'
          simpa using this
        have hcc : cap = cap' := by omega
        subst hcc
        by_cases hroom : k + m ≤ cap
        · have hfit : k * i0.size + (pat m).length ≤ cur.size := by rw [hz1, pat_len, hcs]; omega
          have hr2 := run_append_room (P := P) w t ty 46 i0 ht hi g k cap cur hg ⟨gx, 0, none⟩ m cx (pat m) (by rw [hz1, pat_len]) hnews (pat_one m) hroom hfit
          rw [hr2] at hr
          injection hr with e1 e2
          subst e1 e2
          refine ⟨hu.1, .inr ⟨g, cap, _, rfl, hbg, setRow_heap w g cur _ 46 _ hg, hnc, hcm, ?_, ?_⟩⟩
          · simp only [List.size_toArray, List.length_append, List.length_take, List.length_drop, Array.length_toList, hz1, pat_len]
            omega
          · rw [← htk, hz1, pat_len]
            have hcp : ∀ p, p < k' * 3 → cur.toList[p]? = some (cellM p) := fun p hp => by
              have h9 : (cur.toList.take (k' * 3))[p]? = (pat k')[p]? := by rw [htk]
              rw [List.getElem?_take_of_lt hp] at h9
              rw [h9, pat_get k' p hp]
            refine List.ext_getElem? fun p => ?_
            by_cases hp : p < k' * 3
            · rw [List.getElem?_take_of_lt hp, List.getElem?_take_of_lt hp]
              by_cases h1 : p < k * 3
              · rw [List.append_assoc, List.getElem?_append_left (by rw [List.length_take, Array.length_toList]; omega), List.getElem?_take_of_lt h1]
              · have htl : (cur.toList.take (k * 3)).length = k * 3 := by rw [List.length_take, Array.length_toList]; omega
                by_cases h2 : p < (k + m) * 3
                · rw [List.append_assoc, List.getElem?_append_right (by omega), htl, List.getElem?_append_left (by rw [pat_len]; omega), pat_get m (p - k * 3) (by omega), hcp p hp]
                  unfold cellM
                  rw [show (p - k * 3) % 3 = p % 3 by omega]
                · rw [List.append_assoc, List.getElem?_append_right (by omega), htl, List.getElem?_append_right (by rw [pat_len]; omega), pat_len, List.getElem?_drop]
                  congr 1
                  omega
            · rw [List.getElem?_eq_none (by rw [List.length_take]; omega), List.getElem?_eq_none (by rw [List.length_take]; omega)]
        · have holds : ∀ j u, (pat k)[j]? = some u → w.cell? ((⟨g, 0, none⟩ : Addr).add j) = some u := World.ownsRow.cells h (g := g) rfl
          have hr2 := run_append_grow (P := P) w t ty 46 i0 _ ht hi hz0 ⟨g, 0, none⟩ k cap (pat k) (by rw [hz1, pat_len]) holds ⟨gx, 0, none⟩ m cx (pat m) (by rw [hz1, pat_len]) hnews (by omega) (by omega) (growslice_fits (by omega) (by rw [hz2]; omega))
          rw [hr2] at hr
          injection hr with e1 e2
          subst e1 e2
          refine ⟨hu.1, .inr ⟨g, cap, cur, rfl, hbg, ?_, hnc, hcm, hcs, htk⟩⟩
          rw [← hg]
          exact heap_old w.drew _ g (Array.getElem?_eq_some_iff.1 hg).1
  · exact hu.block fun g hg => h3.block g (World.ownsRow.lt hu g hg).2 fun e => hub (hg.trans e)
theorem step_append_marksS {P : Program} {ops : Array Oper} {o : Oper} {a : Act} {w : World} {K : Act → World → Prop} {Q : Exit → Act → World → Prop} {E : Prop} (hgd : o.guard = none) (dst : Option Tmp) (hdst : o.dst = dst) (s x : Operand) (t : TypeId)
    (ho : o.op = .call { callee := .builtin .append, args := #[s, x], argTypes := #[t, t] })
    (B : Nat) (hinfo : (P.info? 46).map (fun i => (i.zero, i.size, i.bytes)) = some (some (.agg #[.int .i64 0, .int .i64 0, .int .i64 0]), 3, 24)) (ht : P.underlying t = some (.slice 46))
    (v : Value) (k m : Nat) (hv : a.eval s = v) (h : MkR B w v k) (gx cx : Nat) (hxe : a.eval x = .slice (some ⟨gx, 0, none⟩) m cx) (hx : ∀ (j : Nat) (u : Value), (pat m)[j]? = some u → w.cell? ⟨gx, j, none⟩ = some u) (hmax : (k + m) * 24 ≤ 140737488355328) (hB : B ≤ w.heap.size)
    (hK : ∀ v' w', MkR B w' v' (k + m) → w.grownBy w' v.ownBlock → (v'.ownBlock = v.ownBlock ∨ v'.ownBlock = some w.heap.size) → (∀ (u : Value) (k' : Nat), MkR B w u k' → MkR B w' u k') → K (a.put dst v') w') :
    if Region.wanted o (yielded ops a.tmps) = true then Oper.wp P o a w K Q else E := by
  have hw : Region.wanted o (yielded ops a.tmps) = true := by simp [Region.wanted, hgd]
  rw [if_pos hw]
  subst hdst
  obtain ⟨v', w', hr, h1, h2, h3, h4⟩ := append_marksS (P := P) w B t o.type hinfo ht v k m h gx cx hx hmax hB
  unfold Oper.wp
  simp [execOp, ho, resolve, invoke, builtin, hv, hxe, hr, Result.andThen]
  exact hK v' w' h1 h2 h3 h4
end Go.Proofs.YtpikdngccgdhiaaDoor

/-
  ManifestReads: laid.
-/
namespace Go.Proofs.YtpikdngccgdhiaaDoor
open Go Go.RowKit
open Wb

def marksB : List Nat := [201, 202, 203, 204, 205]
set_option maxRecDepth 100000 in
set_option maxHeartbeats 4000000 in
theorem laidB_any (v : Value) (b : List Nat) (w : World) (h : Bs w v b) (hl : b.length ≤ 2000000) :
    Calls Tryd.prog 19 #[v] w fun e w' => ∃ ao, ∃ cap : Nat, e = .returned (.slice ao b.length cap) ∧ Own w.heap.size w' (.slice ao (b.length + 5) cap) (b ++ marksB) ∧ Below w.heap.size w w' := by
  have hin := info5
  have HB : Hid (Bs w v b) := h
  obtain ⟨ab, cb, rfl, _⟩ := h.shape
  clear h
  go_enter Tryd.func19, Tryd.ntmps19
  go_wp2_with (at_builtin; refine wpList_append_at _ rfl (.tmp 4) (.tmp 5) 25 rfl w.heap.size hin Tryd.underlying25 _ [] rfl (Own.nil _ _) _ b rfl HB.out (by simp; omega) (Nat.le_refl _) ?_)
  intro v1 w1 ho1 g1 hat1
  obtain ⟨a1, n1, c1, e1⟩ := own_slice ho1
  subst e1
  have HO1 : Hid (∀ o, Own w.heap.size (w1.alloc o) (.slice a1 n1 c1) b ∧ w.heap.size ≤ (w1.alloc o).heap.size ∧ Below w.heap.size w (w1.alloc o)) := fun o => by
    have hb : Below w.heap.size w w1 := (Below.refl _ _).grown g1 (Nat.le_refl _) (fun q hq => by cases hq)
    exact ⟨(by simpa using ho1 : Own w.heap.size w1 (.slice a1 n1 c1) b).kept (up0 _ _), (up hb o).size, up hb o⟩
  have HLT : Hid (∀ t, Bs (w1.alloc (.cells #[.int .u8 201, .int .u8 202, .int .u8 203, .int .u8 204, .int .u8 205] t)) (.slice (some ⟨w1.heap.size, 0, none⟩) 5 5) marksB) := fun t => by
    refine ⟨⟨_, 5, rfl, by decide, by decide, fun e => (by cases e), fun _ => ⟨_, 0, rfl, fun j hj => ?_⟩⟩, fun x hx => by simp [marksB] at hx; omega⟩
    rw [World.cell?_alloc_new w1 _ t (0 + j)]
    have hj5 : j < 5 := hj
    match j, hj5 with
    | 0, _ => rfl
    | 1, _ => rfl
    | 2, _ => rfl
    | 3, _ => rfl
    | 4, _ => rfl
  clear ho1 g1 hat1 HB
  go_wp2_with (at_builtin; refine wpList_append_at _ rfl (.tmp 7) (.tmp 8) 25 rfl w.heap.size hin Tryd.underlying25 _ b rfl (HO1.out _).1 _ marksB rfl (HLT.out _) (by simp [marksB]; omega) (HO1.out _).2.1 ?_)
  intro v2 w2 ho2 g2 hat2
  have HB2 : Hid (Below w.heap.size w w2) := (HO1.out _).2.2.grown g2 (HO1.out _).2.1 (fun q hq => (World.ownsRow.lt (HO1.out (.cells #[.int .u8 201, .int .u8 202, .int .u8 203, .int .u8 204, .int .u8 205] 5)).1.row q hq).1)
  obtain ⟨a2, c2, e2, hc1, hc2, -, -⟩ := ho2.bs.shape
  subst e2
  have hl5 : (b ++ marksB).length = b.length + 5 := by simp [marksB]
  have HO2 : Hid (Own w.heap.size w2 (.slice a2 (b.length + 5) c2) (b ++ marksB)) := by
    show Own _ _ _ _
    rw [← hl5]
    exact ho2
  rw [hl5] at hc1 ⊢
  unfold maxLen at hc2
  clear ho2 g2 hat2 HO1 HLT hl5
  go_wp2
  go_ret
  exact ⟨_, _, rfl, HO2.out, HB2.out⟩
set_option maxRecDepth 100000 in
set_option maxHeartbeats 4000000 in
theorem intactB_yes (ao : Option Addr) (cap : Nat) (v2 : Value) (b : List Nat) (w : World) (h : Bs w (.slice ao (b.length + 5) cap) (b ++ marksB)) (h2 : Bs w v2 b) (hl : b.length ≤ 2000000) :
    Calls Tryd.prog 21 #[.slice ao b.length cap, v2] w fun e w' => e = .returned (.bool true) ∧ Below w.heap.size w w' := by
  have hl5 : (b ++ marksB).length = b.length + 5 := by simp [marksB]
  have HH : Hid (Bs w (.slice ao b.length cap) b) := by
    have h9 := h
    rw [← hl5] at h9
    have h8 := bs_take h9 b.length (by omega)
    rw [List.take_left] at h8
    exact h8
  have HSB : Hid (Calls Tryd.prog 13 #[.slice ao b.length cap, v2] w fun e w'' => e = .returned (.bool true) ∧ Below w.heap.size w w'') := by
    have h9 := sameB_any (.slice ao b.length cap) v2 b b w HH.out h2
    rw [decide_eq_true rfl] at h9
    exact h9
  obtain ⟨ao', cap', e, hc1, hc2, -, hcc⟩ := h.shape
  rw [hl5] at e hc1
  simp only [Value.slice.injEq] at e
  obtain ⟨rfl, -, rfl⟩ := e
  obtain ⟨gb, off, rfl, hcell⟩ := hcc (fun e => by have := congrArg List.length e; rw [hl5] at this; simp at this)
  have HC : Hid (∀ (k : Nat) (w' : World), k < 5 → Below w.heap.size w w' → w'.cell? ⟨gb, off + (b.length + k), none⟩ = some (.int .u8 (201 + (k : Int)))) := fun k w' hk hb => by
    have h1 := hcell (b.length + k) (by omega)
    have h2 : (b ++ marksB)[b.length + k]'(by omega) = 201 + k := by
      rw [List.getElem_append_right (by omega)]
      have : ∀ j (hj : j < marksB.length), marksB[j] = 201 + j := by decide
      rw [this]
      omega
    rw [h2] at h1
    have h3 := World.block_lt_of_cell? w _ h1
    rw [World.cell?_of_block (a := ⟨gb, off + (b.length + k), none⟩) (hb.block _ h3), h1]
    simp
  obtain ⟨a2, c2, rfl, hd1, hd2, -, -⟩ := h2.shape
  unfold maxLen at hc2 hd2
  clear h h2 hcc hcell HH hl5
  go_enter Tryd.func21, Tryd.ntmps21
  go_wp2_with (go_at_call 13; refine HSB.out.mono ?_; rintro e w1 ⟨rfl, b1⟩)
  clear HSB
  go_loopw [6] (fun i wr => ∃ k : Nat, k ≤ 5 ∧ i = .int .i64 (k : Int) ∧ Below w.heap.size w wr) (fun i _ => 5 - (intOf i).toNat)
  case atStart => exact ⟨0, by omega, rfl, b1⟩
  case round =>
    obtain ⟨k, hk, rfl, hbel⟩ := hrel
    by_cases hlt : k < 5
    · have hk5 : (k : Int) < 5 := by omega
      have c := HC.out k wr hlt hbel
      have hw : IntKind.wrap .u8 (IntKind.wrap .i64 (201 + (k : Int))) = 201 + (k : Int) := by unfold IntKind.wrap; simp [IntKind.bits, IntKind.signed]; omega
      have HBL : Hid (Below w.heap.size w wr) := hbel
      clear hbel b1 HC
      go_wp2
      go_roundw
      case rel => exact ⟨k + 1, by omega, by go_num, HBL.out⟩
      case measure => simp [intOf]; omega
    · obtain rfl : k = 5 := by omega
      clear b1 HC
      go_wp2
      go_ret
      exact ⟨rfl, hbel⟩
end Go.Proofs.YtpikdngccgdhiaaDoor
