import Derived.Deep.RegionHeld3
import Derived.BigQuiet
import Derived.Deep.RegionHeld
import Derived.Test.YtppabcihbpbfpaaGreatDoorQK23
import Derived.Test.YtppabcihbpbfpaaGreatDoorQS0
/-
  ManifestSweeps: named, bytesOf.
-/
namespace Go.Proofs.YtppabcihbpbfpaaGreatDoor
open Go Go.RowKit Go.ChangeShapes
open Wb
open Rd
set_option maxRecDepth 100000 in
set_option maxHeartbeats 8000000 in
theorem named_any (m : Mf) (v : Value) (u : Int) (w : World) (hv : SgsAt w v m.l) (h128 : m.l.length ≤ 1000) :
    Calls Tryz.prog 14 #[mfv m v, .int .i64 u] w fun e w' => e = .returned (.bool (cnd m.l u)) ∧ Below w.heap.size w w' := by
  obtain ⟨mg, mv, mx, mt, l⟩ := m
  unfold mfv
  simp only at hv h128 ⊢
  obtain ⟨ao, cap, rfl, hc1, hc2, -⟩ := id hv
  unfold maxLen at hc2
  obtain ⟨nl, hnl⟩ : ∃ n, n = l.length := ⟨_, rfl⟩
  have HSA : Hid (∀ W, Below w.heap.size w W → SgsAt W (.slice ao nl cap) l) := fun W hW => by rw [hnl]; exact hv.kept hW
  have HNL : Hid (nl = l.length) := hnl
  rw [← hnl] at hc1 h128 ⊢
  obtain ⟨p2, hp2⟩ : ∃ p, p = w.heap.size := ⟨_, rfl⟩
  obtain ⟨W1, hW1⟩ : ∃ W, W = w.alloc (.cells #[.int .i64 mg, .int .i64 mv, .int .i64 mx, .int .i64 mt, .slice ao nl cap] 24) := ⟨_, rfl⟩
  have H1 : Hid (LB W1 p2 24 [.int .i64 mg, .int .i64 mv, .int .i64 mx, .int .i64 mt, .slice ao nl cap] ∧ Below w.heap.size w W1) := by
    rw [hW1, hp2]
    exact ⟨lb_new w [.int .i64 mg, .int .i64 mv, .int .i64 mx, .int .i64 mt, .slice ao nl cap] 24, up0 _ _⟩
  have HW1 : Hid (w.alloc (.cells #[.int .i64 mg, .int .i64 mv, .int .i64 mx, .int .i64 mt, .slice ao nl cap] 24) = W1 ∧ w.heap.size = p2) := ⟨hW1.symm, hp2.symm⟩
  obtain ⟨C, hC⟩ : ∃ C, C = cnd l u := ⟨_, rfl⟩
  have HC : Hid (C = cnd l u) := hC
  rw [← hC]
  clear hv hnl hW1 hp2 hC
  go_enter Tryz.func14, Tryz.ntmps14
  go_upto_region 1 with fail
  rw [HW1.out.1, HW1.out.2]
  clear HW1
  go_wp2_with fail
  go_loopw [5] (fun i wx => ∃ k : Nat, k ≤ nl ∧ i = .int .i64 (k : Int) ∧ cnd (l.take k) u = false ∧ wx = W1) (fun i _ => nl - (intOf i).toNat)
  case atStart => exact ⟨0, Nat.zero_le _, rfl, rfl, rfl⟩
  case round =>
    obtain ⟨k, hk, rfl, hcn, rfl⟩ := hrel
    have HCN : Hid (cnd (l.take k) u = false) := hcn
    have y4 := H1.out.1.cell 4 _ rfl
    clear hcn
    by_cases hlt : k < nl
    · obtain ⟨sg, hsg⟩ : ∃ s, l[k]? = some s := ⟨l[k]'(by have := HNL.out; omega), List.getElem?_eq_getElem _⟩
      obtain ⟨ao', cap', e', -, -, hcr⟩ := HSA.out wr H1.out.2
      have hnl2 := HNL.out
      simp only [Value.slice.injEq] at e'
      obtain ⟨rfl, -, -⟩ := e'
      obtain ⟨b, off, rfl, hrg⟩ := hcr k sg hsg
      have HTK : Hid (l.take (k + 1) = l.take k ++ [sg]) := by
        show _ = _
        rw [List.take_add_one, hsg]
        rfl
      have r0 := hrg 0 _ rfl
      rw [Nat.add_zero] at r0
      have HM : Hid (sg ∈ l) := List.mem_of_getElem? hsg
      obtain ⟨n0, n1, n2⟩ := sg
      clear hcr hrg hsg hnl2
      by_cases he : n0 = u
      · have x1 : (n0 == u) = true := by rw [he]; exact beq_self_eq_true _
        have HCT : Hid (C = true) := by
          rw [HC.out]
          unfold cnd
          exact List.any_eq_true.2 ⟨_, HM.out, decide_eq_true he⟩
        clear he
        go_wp2_with fail
        go_returns
        exact ⟨by rw [HCT.out]; rfl, H1.out.2⟩
      · have x1 : (n0 == u) = false := beq_eq_false_iff_ne.2 he
        have HN : Hid (cnd (l.take (k + 1)) u = false) := by
          rw [HTK.out, cnd_snoc, HCN.out]
          exact decide_eq_false he
        clear he
        go_wp2_with fail
        go_roundw
        case rel => exact ⟨k + 1, by omega, by go_num, HN.out, by first | rfl | trivial⟩
        case measure => simp [intOf]; omega
    · have HCF : Hid (C = false) := by
        have h9 := HCN.out
        rw [show k = nl by omega, HNL.out, List.take_length] at h9
        show C = false
        rw [HC.out, h9]
      go_wp2_with fail
      go_returns
      exact ⟨by rw [HCF.out]; rfl, H1.out.2⟩
/-- the bytes under a name -/
def fnd (fs : List (List UInt8 × List Nat)) (s : List UInt8) : Option (List Nat) := (fs.find? fun x => x.1 == s).map (·.2)
def BoP (fs : List (List UInt8 × List Nat)) (s : List UInt8) (w : World) (e : Ending) (w' : World) : Prop := w' = w ∧ ((fnd fs s = none ∧ e = .returned (.tuple #[.slice none 0 0, .bool false])) ∨ ∃ d v, fnd fs s = some d ∧ e = .returned (.tuple #[v, .bool true]) ∧ Bs w v d)
set_option maxRecDepth 100000 in
set_option maxHeartbeats 8000000 in
theorem bytesOf_any (ok1 : Nat → Prop) (v : Value) (fs : List (List UInt8 × List Nat)) (s : List UInt8) (w : World) (h : Fls ok1 w v fs) :
    Calls Tryz.prog 15 #[v, .string ⟨s.toArray⟩] w (BoP fs s w) := by
  obtain ⟨fa, fc, e, h1, h2, h3⟩ := h.sh
  subst e
  unfold maxLen at h2
  obtain ⟨N, hN⟩ : ∃ n, n = fs.length := ⟨_, rfl⟩
  have HN : Hid (N = fs.length) := hN
  have HF : Hid (fs ≠ [] → ∃ b off, fa = some ⟨b, off, none⟩ ∧ ∀ j (h : j < fs.length), w.cell? ⟨b, off + j * 2, none⟩ = some (enS fs[j].1) ∧ ∃ dv, w.cell? ⟨b, off + j * 2 + 1, none⟩ = some dv ∧ Bs w dv fs[j].2) := fun hne => by
    obtain ⟨b, off, e, -, hc⟩ := h3 hne
    exact ⟨b, off, e, fun j hj => by obtain ⟨c0, dv, c1, c2, -⟩ := hc j hj; exact ⟨c0, dv, c1, c2⟩⟩
  rw [← hN] at h1 ⊢
  clear h h3 hN
  go_enter Tryz.func15, Tryz.ntmps15
  go_wp2_with fail
  go_loopw [6] (fun i wx => ∃ k : Nat, k ≤ N ∧ i = .int .i64 (k : Int) ∧ (∀ x ∈ fs.take k, x.1 ≠ s) ∧ w = wx) (fun i _ => N - (intOf i).toNat)
  case atStart => exact ⟨0, Nat.zero_le _, rfl, fun x hx => by simp at hx, rfl⟩
  case round =>
    obtain ⟨k, hk, rfl, hno, rfl⟩ := hrel
    have HNO : Hid (∀ x ∈ fs.take k, x.1 ≠ s) := hno
    clear hno
    by_cases hlt : k < N
    · have hkf : k < fs.length := by
        have := HN.out
        omega
      obtain ⟨b, off, rfl, hc⟩ := HF.out (List.ne_nil_of_length_pos (by omega))
      obtain ⟨c0, dv, c1, hbs⟩ := hc k hkf
      have HTK : Hid (fs.take (k + 1) = fs.take k ++ [fs[k]] ∧ fs = fs.take k ++ fs[k] :: fs.drop (k + 1)) := ⟨List.take_succ_eq_append_getElem hkf, by rw [← List.drop_eq_getElem_cons hkf, List.take_append_drop]⟩
      obtain ⟨x, hx⟩ : ∃ x, x = fs[k] := ⟨_, rfl⟩
      rw [← hx] at c0 hbs HTK
      obtain ⟨t, d⟩ := x
      unfold enS at c0
      simp only at c0 hbs
      have HB : Hid (Bs w dv d) := hbs
      clear hc hbs hx
      by_cases he : t = s
      · have x1 : (t == s) = true := by rw [he]; exact beq_self_eq_true _
        have HFD : Hid (fnd fs s = some d) := by
          show fnd fs s = some d
          rw [HTK.out.2]
          unfold fnd
          rw [List.find?_append]
          have h0 : (fs.take k).find? (fun x => x.1 == s) = none := List.find?_eq_none.2 fun y hy => by
            simpa using HNO.out y hy
          rw [h0]
          simp [he]
        clear he
        go_wp2_with fail
        go_returns
        exact ⟨rfl, .inr ⟨d, dv, HFD.out, rfl, HB.out⟩⟩
      · have x1 : (t == s) = false := beq_eq_false_iff_ne.2 he
        have HN2 : Hid (∀ x ∈ fs.take (k + 1), x.1 ≠ s) := fun y hy => by
          rw [HTK.out.1] at hy
          rcases List.mem_append.1 hy with e | e
          · exact HNO.out y e
          · rw [List.mem_singleton.1 e]
            exact he
        clear he
        go_wp2_with fail
        go_roundw
        case rel => exact ⟨k + 1, by omega, by go_num, HN2.out, by first | rfl | trivial⟩
        case measure => simp [intOf]; omega
    · have HNF : Hid (fnd fs s = none) := by
        have h9 := HNO.out
        rw [show k = N by omega, HN.out, List.take_length] at h9
        show fnd fs s = none
        unfold fnd
        rw [List.find?_eq_none.2 fun y hy => by simpa using h9 y hy]
        rfl
      go_wp2_with fail
      go_returns
      exact ⟨rfl, .inl ⟨HNF.out, rfl⟩⟩
end Go.Proofs.YtppabcihbpbfpaaGreatDoor

/-
  ManifestSweeps: sameBytes, sameFiles.
-/
namespace Go.Proofs.YtppabcihbpbfpaaGreatDoor
open Go Go.RowKit Go.ChangeShapes
open Wb
set_option maxHeartbeats 400000 in
theorem dlalike_any (va vb : Value) (a b : List Nat) (w : World) (ha : Bs w va a) (hb : Bs w vb b) :
    Calls Tryz.prog 16 #[va, vb] w fun e w' => e = .returned (.bool (decide (a = b))) ∧ Below w.heap.size w w' := by
  obtain ⟨aoa, capa, rfl, hla, hma, hna, hca⟩ := ha.shape
  obtain ⟨aob, capb, rfl, hlb, hmb, hnb, hcb⟩ := hb.shape
  unfold maxLen at hma hmb
  have ga := ha.good
  have gb := hb.good
  by_cases hlen : a.length = b.length
  · have HL : Hid (a.length = b.length) := hlen
    have d0 : ((a.length : Int) != (b.length : Int)) = false := by simp [hlen]
    clear hlen
    go_enter Tryz.func16, Tryz.ntmps16
    go_wp2
    go_loopw [5] (fun i wr => ∃ k : Nat, k ≤ a.length ∧ i = .int .i64 k ∧ a.take k = b.take k ∧ Below w.heap.size w wr) (fun i _ => a.length - (intOf i).toNat)
    case atStart => exact ⟨0, Nat.zero_le _, rfl, by simp, Below.refl _ _⟩
    case round =>
      obtain ⟨k, hk, rfl, heq, hbel⟩ := hrel
      have HQ : Hid (a.take k = b.take k) := heq
      clear heq
      by_cases hlt : k < a.length
      · have hlt' : k < b.length := by rw [← HL.out]; exact hlt
        obtain ⟨b1, off1, rfl, hcell1⟩ := hca (List.ne_nil_of_length_pos (by omega))
        obtain ⟨b2, off2, rfl, hcell2⟩ := hcb (List.ne_nil_of_length_pos (by omega))
        have q1 := (hbel.cell (p := ⟨b1, off1 + k, none⟩) (World.block_lt_of_cell? _ _ (hcell1 k hlt))).trans (hcell1 k hlt)
        have q2 := (hbel.cell (p := ⟨b2, off2 + k, none⟩) (World.block_lt_of_cell? _ _ (hcell2 k hlt'))).trans (hcell2 k hlt')
        clear hca hcb hcell1 hcell2 hna hnb ha hb
        by_cases hxy : a[k] = b[k]
        · have HS : Hid (a.take (k + 1) = b.take (k + 1)) := by
            show _ = _
            rw [List.take_succ_eq_append_getElem hlt, List.take_succ_eq_append_getElem hlt', HQ.out, hxy]
          rw [hxy] at q1
          generalize b[k] = y at *
          have d1 : ((y : Int) != (y : Int)) = false := by simp
          clear hxy
          go_wp2
          go_quiet (fail)
          go_wp2
          go_roundw
          case rel => exact ⟨k + 1, by omega, by go_num, HS.out, bel_drewN hbel _⟩
          case measure => simp [intOf]; omega
        · have HN : Hid (¬ a = b) := by
            intro e
            subst e
            exact hxy rfl
          have d1 : ((a[k] : Int) != (b[k] : Int)) = true := by rw [bne_iff_ne]; omega
          generalize a[k] = x at *
          generalize b[k] = y at *
          clear hxy
          go_wp2
          go_quiet (fail)
          go_wp2
          go_ret
          exact ⟨by rw [decide_eq_false HN.out]; rfl, bel_drewN hbel _⟩
      · have HE : Hid (a = b) := by
          have h := HQ.out
          rw [List.take_of_length_le (by omega), List.take_of_length_le (by rw [← HL.out]; omega)] at h
          exact h
        go_wp2
        go_ret
        exact ⟨by rw [decide_eq_true HE.out]; rfl, hbel⟩
  · have HN : Hid (¬ a = b) := fun e => hlen (by rw [e])
    have d0 : ((a.length : Int) != (b.length : Int)) = true := by rw [bne_iff_ne]; omega
    clear hlen hca hcb
    go_enter Tryz.func16, Tryz.ntmps16
    go_wp2
    go_ret
    exact ⟨by rw [decide_eq_false HN.out]; rfl, Below.refl _ _⟩
theorem dlalike_yes (va vb : Value) (a : List Nat) (w : World) (ha : Bs w va a) (hb : Bs w vb a) :
    Calls Tryz.prog 16 #[va, vb] w fun e w' => e = .returned (.bool true) ∧ Below w.heap.size w w' := by
  have := dlalike_any va vb a a w ha hb
  simpa using this
set_option maxRecDepth 100000 in
set_option maxHeartbeats 2000000 in
theorem dlfalike_yes (ok1 ok2 : Nat → Prop) (va vb : Value) (fs : List (List UInt8 × List Nat)) (w : World) (ha : Fls ok1 w va fs) (hb : Fls ok2 w vb fs) :
    Calls Tryz.prog 18 #[va, vb] w fun e w' => e = .returned (.bool true) ∧ Below w.heap.size w w' := by
  have HA : Hid (∀ W, Below w.heap.size w W → Fls ok1 W va fs) := fun W hW => ha.kept hW
  have HB : Hid (∀ W, Below w.heap.size w W → Fls ok2 W vb fs) := fun W hW => hb.kept hW
  obtain ⟨aa, ca, hva, ha1, ha2, -⟩ := ha.sh
  obtain ⟨ab, cb, hvb, hb1, hb2, -⟩ := hb.sh
  subst hva hvb
  unfold maxLen at ha2 hb2
  have d0 : ((fs.length : Int) != (fs.length : Int)) = false := by simp
  clear ha hb
  go_enter Tryz.func18, Tryz.ntmps18
  go_wp2_with fail
  go_loopw [5] (fun i wr => ∃ k : Nat, k ≤ fs.length ∧ i = .int .i64 (k : Int) ∧ Below w.heap.size w wr) (fun i _ => fs.length - (intOf i).toNat)
  case atStart => exact ⟨0, Nat.zero_le _, rfl, Below.refl _ _⟩
  case round =>
    obtain ⟨k, hk, rfl, hbel⟩ := hrel
    by_cases hlt : k < fs.length
    · obtain ⟨a1, c1, e1, -, -, h1⟩ := (HA.out wr hbel).sh
      obtain ⟨a2, c2, e2, -, -, h2⟩ := (HB.out wr hbel).sh
      obtain ⟨b1, o1, e3, -, h3⟩ := h1 (List.ne_nil_of_length_pos (by omega))
      obtain ⟨b2, o2, e4, -, h4⟩ := h2 (List.ne_nil_of_length_pos (by omega))
      simp only [Value.slice.injEq] at e1 e2
      obtain ⟨rfl, -, -⟩ := e1
      obtain ⟨rfl, -, -⟩ := e2
      subst e3 e4
      obtain ⟨p1, v1, q1, s1, -⟩ := h3 k hlt
      obtain ⟨p2, v2, q2, s2, -⟩ := h4 k hlt
      have HC : Hid (∀ W, Below wr.heap.size wr W → W.cell? ⟨b1, o1 + k * 2, none⟩ = some (enS fs[k].1) ∧ W.cell? ⟨b2, o2 + k * 2, none⟩ = some (enS fs[k].1) ∧ W.cell? ⟨b1, o1 + k * 2 + 1, none⟩ = some v1 ∧ W.cell? ⟨b2, o2 + k * 2 + 1, none⟩ = some v2) := fun W hW => ⟨(hW.cell (p := ⟨b1, _, none⟩) (World.block_lt_of_cell? _ _ p1)).trans p1, (hW.cell (p := ⟨b2, _, none⟩) (World.block_lt_of_cell? _ _ p2)).trans p2, (hW.cell (p := ⟨b1, _, none⟩) (World.block_lt_of_cell? _ _ q1)).trans q1, (hW.cell (p := ⟨b2, _, none⟩) (World.block_lt_of_cell? _ _ q2)).trans q2⟩
      have HS : Hid (∀ W, Below wr.heap.size wr W → Bs W v1 fs[k].2 ∧ Bs W v2 fs[k].2) := fun W hW => ⟨s1.kept hW, s2.kept hW⟩
      obtain ⟨x1, y1, hv1, -⟩ := s1.shape
      obtain ⟨x2, y2, hv2, -⟩ := s2.shape
      unfold enS at p1 p2 HC
      clear h1 h2 h3 h4 s1 s2 p1 p2 q1 q2 HA HB
      generalize fs[k] = x at *
      obtain ⟨nm, dl⟩ := x
      simp only at hv1 hv2 HC HS
      subst hv1 hv2
      obtain ⟨p1, p2, q1, q2⟩ := HC.out wr (Below.refl _ _)
      go_wp2_with fail
      go_region_held (fun w' => w'.cell? ⟨b1, o1 + k * 2, none⟩ = some (.string ⟨nm.toArray⟩) ∧ w'.cell? ⟨b2, o2 + k * 2, none⟩ = some (.string ⟨nm.toArray⟩) ∧ w'.cell? ⟨b1, o1 + k * 2 + 1, none⟩ = some (.slice x1 dl.length y1) ∧ w'.cell? ⟨b2, o2 + k * 2 + 1, none⟩ = some (.slice x2 dl.length y2)) (first | go_keep | (exact HC.out _ (andThen (Below.drew (Below.refl _ _)) hb')))
        (first | (go_at_call 16; refine (dlalike_yes _ _ dl _ ?_ ?_).mono ?_; (exact (HS.out _ (Below.drew (Below.refl _ _))).1); (exact (HS.out _ (Below.drew (Below.refl _ _))).2); rintro e w' ⟨rfl, hb'⟩))
      have hb2 : Below w.heap.size w w' := andThen (Below.drew hbel) hb'
      clear hb' hbel HC HS q1 q2 p1 p2
      go_wp2_with fail
      go_roundw
      case rel => exact ⟨k + 1, by omega, by go_num, hb2⟩
      case measure => simp [intOf]; omega
    · go_wp2_with fail
      go_returns
      exact ⟨rfl, hbel⟩
end Go.Proofs.YtppabcihbpbfpaaGreatDoor
