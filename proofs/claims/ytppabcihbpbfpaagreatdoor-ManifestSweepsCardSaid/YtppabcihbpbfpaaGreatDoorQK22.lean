import Derived.Maps.OwnSet
import Derived.Deep.CutRange
import Derived.Test.YtppabcihbpbfpaaGreatDoorQKx
import Derived.Test.YtppabcihbpbfpaaGreatDoorQK19
import Derived.Test.YtppabcihbpbfpaaGreatDoorQK20
import Derived.Test.YtppabcihbpbfpaaGreatDoorQK21
/-
  Package manifest on a disk: stale.
-/
namespace Go.Proofs.YtppabcihbpbfpaaGreatDoor
open Go Go.RowKit Go.ChangeShapes
open Wb
open Rd
theorem lawSi : Maps.Keyed Tryz.prog 3 := Maps.int_keyed Tryz.underlying3
theorem keySi {k : Int} (h : (Lit.int .i64 k).wf = true) : keyOf Tryz.prog 3 (.int .i64 k) = some (.int .i64 k) := Maps.keyOf_int_mk Tryz.underlying3 h
theorem zeroSg (w : World) : (zeroValue 56).run Tryz.prog w = .ok (sgv ⟨0, 0, 0⟩) w := by kernel_rfl
theorem wfSi {n : Int} (h1 : -9223372036854775808 ≤ n) (h2 : n ≤ 9223372036854775807) : (Lit.int .i64 n).wf = true := by
  have e1 : IntKind.i64.min = -9223372036854775808 := by decide
  have e2 : IntKind.i64.max = 9223372036854775807 := by decide
  simp [Lit.wf, e1, e2, h1, h2]
/-- how a segment reads -/
def sgElem (v : Value) : Option (DataW Unit × List MemPlace) := match v with
  | .agg ⟨[.int .i64 _, .int .i64 _, .int .i64 _]⟩ => some (.agg [], [])
  | _ => none
theorem sgElem_mk (s : Sg) : sgElem (sgv s) = some (.agg [], []) := rfl
theorem sgElem_inv {v : Value} {z : DataW Unit × List MemPlace} (h : sgElem v = some z) : ∃ s, v = sgv s := by
  unfold sgElem at h
  split at h
  · exact ⟨⟨_, _, _⟩, rfl⟩
  · cases h
/-- the numbers of segments in a map -/
def MSg (w : World) (b n : Nat) (S : Int → Bool) : Prop := ∃ D, w.ownsMap Tryz.prog 3 sgElem b n D ∧ ∀ k, (Lit.int .i64 k).wf = true → Maps.has D (.int .i64 k) = S k
/-- is the number named? -/
def cnd (l : List Sg) (u : Int) : Bool := l.any fun s => decide (s.n = u)
section
variable {w w' : World} {b n : Nat} {S : Int → Bool}
theorem MSg.lt (h : MSg w b n S) : b < w.heap.size := by
  obtain ⟨D, h1, -⟩ := h
  exact h1.lt
theorem MSg.kept (h : MSg w b n S) (hb : Below w.heap.size w w') : MSg w' b n S := by
  have hlt := h.lt
  obtain ⟨D, ⟨es, clock, h2, h3⟩, h4⟩ := h
  exact ⟨D, ⟨es, clock, (hb.block b hlt).trans h2, h3⟩, h4⟩
theorem MSg.new (w : World) : MSg (w.alloc (.map #[] 0)) w.heap.size 0 (cnd []) := ⟨_, World.ownsMap_made w _ _ _, fun _k _ => rfl⟩
theorem MSg.look (h : MSg w b n S) {k : Int} (hk : (Lit.int .i64 k).wf = true) : ∃ s : Sg, (Instr.lookup 90 (.map (some b)) (.int .i64 k) true).run Tryz.prog w = .ok (.tuple #[sgv s, .bool (S k)]) w := by
  obtain ⟨D, h1, h2⟩ := h
  obtain ⟨v, ps, hr, hv⟩ := h1.look_ok lawSi Tryz.underlying90 (zeroSg w) (sgElem_mk _) (keySi hk)
  obtain ⟨s, rfl⟩ := sgElem_inv hv
  exact ⟨s, by rw [hr, h2 k hk]⟩
theorem MSg.put (h : MSg w b n S) (s : Sg) (hk : (Lit.int .i64 s.n).wf = true) (hn : n < maxLen) : ∃ w', (Instr.mapUpdate 90 (.map (some b)) (.int .i64 s.n) (sgv s)).run Tryz.prog w = .ok () w' ∧ MSg w' b (n + 1) (fun j => S j || decide (s.n = j)) ∧ w.grownBy w' (some b) := by
  obtain ⟨D, h1, h2⟩ := h
  obtain ⟨w', hr, h3, h4⟩ := h1.store lawSi Tryz.underlying90 hn (keySi hk) (sgElem_mk s)
  refine ⟨w', hr, ⟨_, h3, fun j hj => ?_⟩, h4.grown⟩
  by_cases e : s.n = j
  · subst e
    rw [Maps.has_put_same h1.isMap (lawSi.key (keySi hk))]
    simp
  · rw [Maps.has_put_other (fun e2 => e (Lit.int.inj e2).2.symm), h2 j hj]
    simp [e]
end
theorem cnd_snoc (l : List Sg) (s : Sg) (u : Int) : cnd (l ++ [s]) u = (cnd l u || decide (s.n = u)) := by
  simp [cnd, List.any_append]
/-- a row of names -/
def enStr (s : List UInt8) : List Value := [enS s]
theorem enStr_len (s : List UInt8) : (enStr s).length = 1 := rfl
set_option maxRecDepth 100000 in
theorem tiStr : TI 9 39 1 := ti_of (z := .string ⟨#[]⟩) (k := 16) Tryz.underlying39 (by kernel_rfl) rfl (by decide) (by decide)
def NmR (B : Nat) (w : World) (v : Value) (ns : List (List UInt8)) : Prop := w.ownsRow B 9 1 v ns.length (ns.flatMap enStr)
theorem flat_str (l : List (List UInt8)) : l.flatMap enStr = l.map enS := by
  induction l with
  | nil => rfl
  | cons x l ih => rw [List.map_cons, List.flatMap_cons, ih]; rfl
theorem NmR.read {B : Nat} {w : World} {v : Value} {ns : List (List UInt8)} (h : NmR B w v ns) (j : Nat) (s : List UInt8) (hs : ns[j]? = some s) : ∃ b k, v = .slice (some ⟨b, 0, none⟩) ns.length k ∧ w.cell? ⟨b, j, none⟩ = some (enS s) := by
  obtain ⟨b, k, e, hc⟩ := row_read (en := enStr) enStr_len h j s hs 0 _ rfl
  rw [Nat.mul_one, Nat.add_zero] at hc
  exact ⟨b, k, e, hc⟩
theorem num_l (s : List UInt8) (hs : s.length ≤ 1000) (w : World) (hT : NTab w) : Calls Tryz.prog 13 #[.string ⟨s.toArray⟩] w fun e w' => e = .returned (.tuple #[.int .i64 (mNum s).1, .bool (mNum s).2]) ∧ Below w.heap.size w w' := by
  have h9 := num_any ⟨s.toArray⟩ (by show s.toArray.size ≤ _; simp; omega) w hT
  simpa using h9
set_option maxRecDepth 100000 in
set_option maxHeartbeats 16000000 in
theorem stale_any (B g : Nat) (S : Dk.DS) (M : Mm) (m : Mf) (v : Value) (w : World) (h : DM B w g S M) (hv : SgsAt w v m.l) (hT : NTab w) (hl : S.nm.length ≤ 1000000) (hnm : ∀ p ∈ S.nm, p.1.length ≤ 1000) (hfit : ∀ s ∈ m.l, Sg.fit s) (h128 : m.l.length ≤ 128) :
    Calls Tryz.prog 28 #[.pointer (some ⟨g, 0, none⟩), mfv m v] w fun e w' => ∃ v', e = .returned v' ∧ NmR w.heap.size w' v' ((Dk.lst S).filter (Sw.old (cnd m.l))) ∧ Below w.heap.size w w' := by
  obtain ⟨mg, mv, mx, mt, l⟩ := m
  unfold mfv
  simp only at hv hfit h128 ⊢
  obtain ⟨ao, cap, rfl, hc1, hc2, -⟩ := id hv
  unfold maxLen at hc2
  obtain ⟨nl, hnl⟩ : ∃ n, n = l.length := ⟨_, rfl⟩
  have HSA : Hid (∀ W, Below w.heap.size w W → SgsAt W (.slice ao nl cap) l) := fun W hW => by rw [hnl]; exact hv.kept hW
  have HNL : Hid (nl = l.length ∧ (∀ s ∈ l, Sg.fit s)) := ⟨hnl, hfit⟩
  have HTT : Hid (∀ W, Below w.heap.size w W → NTab W) := fun W hW => hT.kept hW
  have HLI : Hid (∀ W, Below w.heap.size w W → Calls Tryz.prog 44 #[.pointer (some ⟨g, 0, none⟩)] W fun e w' => ∃ a c, e = .returned (.slice a (Dk.lst S).length c) ∧ NmR W.heap.size w' (.slice a (Dk.lst S).length c) (Dk.lst S) ∧ Below W.heap.size W w') := fun W hW => (dklist_any B g S M W (h.kept hW) (by omega)).mono fun e w' ⟨v, h1, h2, h3⟩ => by
    obtain ⟨a, c, rfl, -⟩ := Mg.row_shape h2
    exact ⟨a, c, h1, by unfold NmR; rw [flat_str]; exact h2, h3⟩
  have HNM : Hid (∀ s ∈ Dk.lst S, s.length ≤ 1000) := fun s hs => by
    unfold Dk.lst at hs
    split at hs
    · cases hs
    · obtain ⟨p, hp, rfl⟩ := List.mem_map.1 hs
      exact hnm p hp
  have HLL : Hid ((Dk.lst S).length ≤ 1000000) := by
    show _ ≤ _
    unfold Dk.lst
    split
    · simp
    · rw [List.length_map]
      exact hl
  obtain ⟨L, hL⟩ : ∃ L, L = Dk.lst S := ⟨_, rfl⟩
  obtain ⟨N, hN⟩ : ∃ N, N = L.length := ⟨_, rfl⟩
  rw [← hL] at HLI HNM HLL ⊢
  rw [← hN] at HLI HLL
  have HN : Hid (N = L.length) := hN
  clear hL hN
  rw [← hnl] at hc1 h128 ⊢
  obtain ⟨p3, hp3⟩ : ∃ p, p = w.heap.size := ⟨_, rfl⟩
  obtain ⟨W1, hW1⟩ : ∃ W, W = w.alloc (.cells #[.int .i64 mg, .int .i64 mv, .int .i64 mx, .int .i64 mt, .slice ao nl cap] 24) := ⟨_, rfl⟩
  have H1 : Hid (LB W1 p3 24 [.int .i64 mg, .int .i64 mv, .int .i64 mx, .int .i64 mt, .slice ao nl cap] ∧ Below w.heap.size w W1) := by
    rw [hW1, hp3]
    exact ⟨lb_new w [.int .i64 mg, .int .i64 mv, .int .i64 mx, .int .i64 mt, .slice ao nl cap] 24, up0 _ _⟩
  have HW1 : Hid (w.alloc (.cells #[.int .i64 mg, .int .i64 mv, .int .i64 mx, .int .i64 mt, .slice ao nl cap] 24) = W1 ∧ w.heap.size = p3) := ⟨hW1.symm, hp3.symm⟩
  clear h hv hT hl hnm hfit hnl hW1 hp3
  go_enter Tryz.func28, Tryz.ntmps28
  go_upto_region 1 with fail
  rw [HW1.out.1, HW1.out.2]
  clear HW1
  have hmm := @run_makeMap Tryz.prog
  obtain ⟨pM, hpM⟩ : ∃ p, p = W1.heap.size := ⟨_, rfl⟩
  obtain ⟨W2, hW2⟩ : ∃ W, W = W1.alloc (.map #[] 0) := ⟨_, rfl⟩
  have H2 : Hid (MSg W2 pM 0 (cnd (l.take 0)) ∧ Below w.heap.size w W2 ∧ LB W2 p3 24 [.int .i64 mg, .int .i64 mv, .int .i64 mx, .int .i64 mt, .slice ao nl cap] ∧ w.heap.size ≤ pM) := by
    have hs := H1.out.2.size
    refine ⟨?_, ?_, ?_, by omega⟩
    · rw [hW2, hpM]
      exact MSg.new W1
    · rw [hW2]
      exact andThen H1.out.2 (up0 _ _)
    · rw [hW2]
      exact H1.out.1.kept (up0 _ _)
  have HW2 : Hid (W1.alloc (.map #[] 0) = W2 ∧ W1.heap.size = pM) := ⟨hW2.symm, hpM.symm⟩
  clear hW2 hpM
  go_upto_region 2 with fail
  rw [HW2.out.1, HW2.out.2]
  clear HW2 hmm
  have y4 := H2.out.2.2.1.cell 4 _ rfl
  go_wp2_with fail
  clear y4
  go_loopw [19] (fun i wr => ∃ (k n : Nat), k ≤ nl ∧ n ≤ k ∧ i = .int .i64 (k : Int) ∧ MSg wr pM n (cnd (l.take k)) ∧ Below w.heap.size w wr) (fun i _ => nl - (intOf i).toNat)
  case atStart => exact ⟨0, 0, Nat.zero_le _, Nat.le_refl _, rfl, H2.out.1, H2.out.2.1⟩
  case round =>
    obtain ⟨k, n, hk, hn, rfl, hms, hbel⟩ := hrel
    have HM : Hid (MSg wr pM n (cnd (l.take k)) ∧ Below w.heap.size w wr) := ⟨hms, hbel⟩
    clear hms hbel
    by_cases hlt : k < nl
    · obtain ⟨sg, hsg⟩ : ∃ s, l[k]? = some s := ⟨l[k]'(by have := HNL.out.1; omega), List.getElem?_eq_getElem _⟩
      obtain ⟨ao', cap', e', -, -, hcr⟩ := HSA.out wr HM.out.2
      have hnl2 := HNL.out.1
      simp only [Value.slice.injEq] at e'
      obtain ⟨rfl, -, -⟩ := e'
      obtain ⟨b, off, rfl, hrg⟩ := hcr k sg hsg
      have hf := HNL.out.2 sg (List.mem_of_getElem? hsg)
      have hwf : (Lit.int .i64 sg.n).wf = true := wfSi hf.1.1 hf.1.2
      have HTK : Hid (l.take (k + 1) = l.take k ++ [sg]) := by
        show _ = _
        rw [List.take_add_one, hsg]
        rfl
      obtain ⟨n0, n1, n2⟩ := sg
      have r0 := hrg 0 _ rfl
      have r1 := hrg 1 _ rfl
      have r2 := hrg 2 _ rfl
      rw [Nat.add_zero] at r0
      obtain ⟨p7, hp7⟩ : ∃ p, p = wr.heap.size := ⟨_, rfl⟩
      obtain ⟨W3, hW3⟩ : ∃ W, W = wr.alloc (.cells #[.int .i64 n0, .int .i64 n1, .int .i64 n2] 56) := ⟨_, rfl⟩
      have H3 : Hid (LB W3 p7 56 [.int .i64 n0, .int .i64 n1, .int .i64 n2] ∧ Below wr.heap.size wr W3) := by
        rw [hW3, hp7]
        exact ⟨lb_new wr [.int .i64 n0, .int .i64 n1, .int .i64 n2] 56, up0 _ _⟩
      have HW3 : Hid (wr.alloc (.cells #[.int .i64 n0, .int .i64 n1, .int .i64 n2] 56) = W3 ∧ wr.heap.size = p7) := ⟨hW3.symm, hp7.symm⟩
      obtain ⟨W4, hrun, hm4, hgr⟩ := (HM.out.1.kept H3.out.2).put ⟨n0, n1, n2⟩ hwf (by unfold maxLen; omega)
      have H4 : Hid (MSg W4 pM (n + 1) (cnd (l.take (k + 1))) ∧ Below w.heap.size w W4) := by
        refine ⟨?_, (andThen HM.out.2 H3.out.2).grown hgr (andThen HM.out.2 H3.out.2).size fun q e => by have := H2.out.2.2.2; have := Option.some.inj e; omega⟩
        obtain ⟨D, q1, q2⟩ := hm4
        refine ⟨D, q1, fun j hj => ?_⟩
        rw [q2 j hj, HTK.out, cnd_snoc]
      unfold sgv at hrun
      simp only at hrun
      clear hcr hrg hsg hm4 hgr hW3 hp7 hf hwf hnl2
      go_upto_region 5 with fail
      rw [HW3.out.1, HW3.out.2]
      clear r0 r1 r2 HW3
      have y0 := H3.out.1.cell 0 _ rfl
      have y1 := H3.out.1.cell 1 _ rfl
      have y2 := H3.out.1.cell 2 _ rfl
      go_wp2_with fail
      go_roundw
      case rel => exact ⟨k + 1, n + 1, by omega, by omega, by go_num, H4.out.1, H4.out.2⟩
      case measure => simp [intOf]; omega
    · have hke : k = nl := by omega
      have HM2 : Hid (MSg wr pM n (cnd l) ∧ Below w.heap.size w wr) := by
        have h9 := HM.out
        rw [hke, HNL.out.1, List.take_length] at h9
        exact h9
      clear hke HM
      go_wp2_with fail
      refine (HLI.out wr HM2.out.2).mono ?_
      rintro e W5 ⟨na, nc, rfl, hnr, b5⟩
      have H5 : Hid (NmR wr.heap.size W5 (.slice na N nc) L ∧ MSg W5 pM n (cnd l) ∧ Below w.heap.size w W5) := ⟨hnr, HM2.out.1.kept b5, andThen HM2.out.2 b5⟩
      clear hnr b5
      go_wp2_with fail
      go_loopw [8, 31] (fun o i wx => ∃ (j : Nat) (ns : List (List UInt8)), j ≤ N ∧ i = .int .i64 (j : Int) ∧ NmR W5.heap.size wx o ns ∧ ns = (L.take j).filter (Sw.old (cnd l)) ∧ Below W5.heap.size W5 wx) (fun _ i _ => N - (intOf i).toNat)
      case atStart => exact ⟨0, [], Nat.zero_le _, rfl, World.ownsRow_nil _ _ _ _, rfl, Below.refl _ _⟩
      case round =>
        obtain ⟨j, ns, hj, rfl, hnr, hns, hbx⟩ := hrel
        have HX : Hid (NmR W5.heap.size wr u8 ns ∧ ns = (L.take j).filter (Sw.old (cnd l)) ∧ Below W5.heap.size W5 wr) := ⟨hnr, hns, hbx⟩
        have hll : N ≤ 1000000 := HLL.out
        clear hnr hns hbx
        by_cases hltj : j < N
        · have hjL : j < L.length := by
            have := HN.out
            omega
          have HTK : Hid (L.take (j + 1) = L.take j ++ [L[j]]) := List.take_succ_eq_append_getElem hjL
          have hsl := HNM.out _ (List.getElem_mem hjL)
          obtain ⟨b, c, e, hc⟩ := NmR.read (H5.out.1) j L[j] (List.getElem?_eq_getElem hjL)
          simp only [Value.slice.injEq] at e
          obtain ⟨rfl, -, rfl⟩ := e
          obtain ⟨s, hs⟩ : ∃ s, s = L[j] := ⟨_, rfl⟩
          rw [← hs] at HTK hsl hc
          have hcw : wr.cell? ⟨b, j, none⟩ = some (.string ⟨s.toArray⟩) := (HX.out.2.2.cell (World.block_lt_of_cell? _ _ hc)).trans hc
          have HNUM : Hid (Calls Tryz.prog 13 #[.string ⟨s.toArray⟩] wr fun e w' => e = .returned (.tuple #[.int .i64 (mNum s).1, .bool (mNum s).2]) ∧ Below wr.heap.size wr w') := by
            exact num_l s hsl wr (HTT.out wr (andThen H5.out.2.2 HX.out.2.2))
          have hub := mNum_bounds s
          obtain ⟨U, hU⟩ : ∃ U, U = (mNum s).1 := ⟨_, rfl⟩
          obtain ⟨Bz, hBz⟩ : ∃ B, B = (mNum s).2 := ⟨_, rfl⟩
          rw [← hU, ← hBz] at HNUM
          rw [← hU] at hub
          obtain ⟨D, hD⟩ : ∃ D, D = decide (s = Sw.freshN) := ⟨_, rfl⟩
          obtain ⟨C, hC⟩ : ∃ C, C = cnd l U := ⟨_, rfl⟩
          have HOLD : Hid (Sw.old (cnd l) s = (D || (Bz && !C))) := by
            show _ = _
            unfold Sw.old
            rw [hD, hBz, hC, hU]
          clear hc hs
          go_wp2_with fail
          refine HNUM.out.mono ?_
          rintro e W6 ⟨rfl, b6⟩
          have H6 : Hid (NmR W5.heap.size W6 u8 ns ∧ Below W5.heap.size W5 W6 ∧ MSg W6 pM n (cnd l)) := ⟨Mg.row_kept HX.out.1 b6, andThen HX.out.2.2 b6, H5.out.2.1.kept (andThen HX.out.2.2 b6)⟩
          obtain ⟨sg, hlk⟩ := H6.out.2.2.look (wfSi (by omega) (by omega) : (Lit.int .i64 U).wf = true)
          rw [← hC] at hlk
          obtain ⟨n0, n1, n2⟩ := sg
          unfold sgv at hlk
          simp only at hlk
          clear b6 hcw hub hU hBz hC HNUM
          obtain ⟨W7, hW7⟩ : ∃ W, W = W6.alloc (.cells #[.int .i64 n0, .int .i64 n1, .int .i64 n2] 56) := ⟨_, rfl⟩
          have H7 : Hid (NmR W5.heap.size W7 u8 ns ∧ Below W5.heap.size W5 W7) := by
            rw [hW7]
            exact ⟨Mg.row_kept H6.out.1 (up0 _ _), andThen H6.out.2.1 (up0 _ _)⟩
          have HW7 : Hid (W6.alloc (.cells #[.int .i64 n0, .int .i64 n1, .int .i64 n2] 56) = W7) := hW7.symm
          clear hW7
          go_upto_region 13 with fail
          rw [HW7.out]
          clear HW7 hlk H6
          have hle : ns.length ≤ 1000000 := by
            have h9 := HX.out.2.1
            have h8 : ns.length ≤ (L.take j).length := by rw [h9]; exact List.length_filter_le _ _
            have := HLL.out
            have := HN.out
            rw [List.length_take] at h8
            omega
          have HAP : Hid (∃ a8 c8 W8, (Builtin.append_ #[39, 39] 39 #[u8, .slice (some ⟨W7.heap.size, 0, none⟩) 1 1]).run Tryz.prog (W7.alloc (.cells #[.string ⟨s.toArray⟩] 9)) = .ok (.slice a8 (ns.length + 1) c8) W8 ∧ NmR W5.heap.size W8 (.slice a8 (ns.length + 1) c8) (ns ++ [s]) ∧ Below W5.heap.size W5 W8) := by
            have hw7 := H7.out.2.size
            obtain ⟨v8, W8, hr8, r8, f8, q8, a8, c8, rfl⟩ := row_more (en := enStr) tiStr enStr_len H7.out.1 s (fun u hu => by rw [List.mem_singleton.1 hu]; rfl) (by omega) (by omega)
            exact ⟨a8, c8, W8, hr8, r8, H7.out.2.trans (f8.below W5.heap.size hw7 fun q e => (World.ownsRow.lt H7.out.1 q e).1)⟩
          have HN1 : Hid (Sw.old (cnd l) s = true → ns ++ [s] = (L.take (j + 1)).filter (Sw.old (cnd l))) := fun ho => by
            rw [HTK.out, List.filter_append, ← HX.out.2.1, List.filter_cons_of_pos (by exact ho), List.filter_nil]
          have HN0 : Hid (Sw.old (cnd l) s = false → ns = (L.take (j + 1)).filter (Sw.old (cnd l))) := fun ho => by
            rw [HTK.out, List.filter_append, ← HX.out.2.1, List.filter_cons_of_neg (by rw [ho]; decide), List.filter_nil, List.append_nil]
          by_cases hfr : s = Sw.freshN
          · have hD2 : D = true := by rw [hD]; exact decide_eq_true hfr
            unfold Sw.freshN at hfr
            subst hfr
            clear hD
            obtain ⟨a8, c8, W8, hr8, hn8, hb8⟩ := HAP.out
            have H8 : Hid (NmR W5.heap.size W8 (.slice a8 (ns.length + 1) c8) (ns ++ [[77, 65, 78, 73, 70, 69, 83, 84, 46, 116, 109, 112]]) ∧ Below W5.heap.size W5 W8) := ⟨hn8, hb8⟩
            clear hn8 hb8
            go_wp2_with (at_builtin; refine wpList_appRun rfl (.tmp 55) (.tmp 57) 39 rfl rfl rfl hr8 ?_)
            go_roundw
            case rel => exact ⟨j + 1, ns ++ [[77, 65, 78, 73, 70, 69, 83, 84, 46, 116, 109, 112]], by omega, by go_num, H8.out.1, HN1.out (by rw [HOLD.out, hD2]; rfl), H8.out.2⟩
            case measure => simp [intOf]; omega
          · have hD2 : D = false := by rw [hD]; exact decide_eq_false hfr
            have xf : (s == [77, 65, 78, 73, 70, 69, 83, 84, 46, 116, 109, 112]) = false := beq_eq_false_iff_ne.2 hfr
            clear hfr hD
            cases Bz with
            | false =>
              go_wp2_with fail
              go_roundw
              case rel => exact ⟨j + 1, ns, by omega, by go_num, H7.out.1, HN0.out (by rw [HOLD.out, hD2]; rfl), H7.out.2⟩
              case measure => simp [intOf]; omega
            | true =>
              cases C with
              | true =>
                go_wp2_with fail
                go_roundw
                case rel => exact ⟨j + 1, ns, by omega, by go_num, H7.out.1, HN0.out (by rw [HOLD.out, hD2]; rfl), H7.out.2⟩
                case measure => simp [intOf]; omega
              | false =>
                obtain ⟨a8, c8, W8, hr8, hn8, hb8⟩ := HAP.out
                have H8 : Hid (NmR W5.heap.size W8 (.slice a8 (ns.length + 1) c8) (ns ++ [s]) ∧ Below W5.heap.size W5 W8) := ⟨hn8, hb8⟩
                clear hn8 hb8
                go_wp2_with (at_builtin; refine wpList_appRun rfl (.tmp 55) (.tmp 57) 39 rfl rfl rfl hr8 ?_)
                go_roundw
                case rel => exact ⟨j + 1, ns ++ [s], by omega, by go_num, H8.out.1, HN1.out (by rw [HOLD.out, hD2]; rfl), H8.out.2⟩
                case measure => simp [intOf]; omega
        · have hje : j = N := by omega
          have HE : Hid (NmR W5.heap.size wr u8 (L.filter (Sw.old (cnd l))) ∧ Below w.heap.size w wr) := by
            have h9 := HX.out.2.1
            rw [hje, HN.out, List.take_length] at h9
            rw [← h9]
            exact ⟨HX.out.1, andThen H5.out.2.2 HX.out.2.2⟩
          have hs5 := H5.out.2.2.size
          clear hje
          go_wp2_with fail
          go_returns
          exact ⟨_, rfl, row_low HE.out.1 hs5, HE.out.2⟩
end Go.Proofs.YtppabcihbpbfpaaGreatDoor
