/-
  DiskLeaves, DiskLasts: Load of files that may be loaded; most, rising.
-/
import Derived.Test.YtjepeeopjjnglaaDks
namespace Go.Proofs.Ytjepeeopjjnglaa
open Go Go.RowKit Go.ChangeShapes
open Wb

theorem dkload_good (q : Int) (ok1 : Nat → Prop) (v : Value) (fs : List (List UInt8 × List Nat)) (w : World) (hfs : Fls ok1 w v fs) (hn : fs.length ≤ 400000000) (hg : Dk.Gd fs) (hq : 0 ≤ q ∧ q ≤ 4194304) (hl : (Dk.flen fs : Int) ≤ q) :
    Calls Try.prog 33 #[.int .i64 q, v] w fun e w' => ∃ g S M, e = .returned (.tuple #[.pointer (some ⟨g, 0, none⟩), .int .i64 0]) ∧ DM w.heap.size w' g S M ∧ Dk.WF S fs.length ∧ Dk.LG q fs S ∧ Below w.heap.size w w' := by
  refine (dkload_any q ok1 v fs w hfs hn fun x hx => by
    have := (Dk.isNm_len (hg.nm x hx)).2
    unfold maxLen
    omega).mono fun e w' ⟨bel, h⟩ => ?_
  rcases h with ⟨h1, -⟩ | ⟨-, l, k, hE, hW, h⟩
  · exact absurd hq h1
  · have hnd : l.length = fs.length → l.Nodup := fun hl2 => by
      have h9 := Dk.CG.crs (q := q) hg l fs.length
      rw [List.take_of_length_le (by rw [List.length_zip]; omega)] at h9
      have h8 := hW.inj
      rw [h9.nm] at h8
      have e : (Dk.nmx (fs.zip l)).map (·.2) = l := by
        unfold Dk.nmx
        rw [List.map_map]
        refine List.ext_getElem (by rw [List.length_map, List.length_zip]; omega) fun i h1 h2 => ?_
        rw [List.getElem_map]
        simp
      rw [e] at h8
      exact h8
    rcases h with ⟨h1, -, h2, -⟩ | ⟨h1, h2, h3, -⟩ | ⟨h1, h2, g, M, h3, h4, h5⟩
    · exact absurd (hg.crtE l h1) h2
    · exact absurd ((Dk.AG.all hg (hnd h1) h1 hl k (by omega)).step hg (hnd h1) h2 (by omega) hl).1 h3
    · have h9 := Dk.AG.all (q := q) hg (hnd h1) h1 hl fs.length (Nat.le_refl _)
      rw [List.take_of_length_le (Nat.le_refl _)] at h9
      exact ⟨g, _, M, h3, h4, h5, h9.sd h1, bel⟩
/-- the two orders of strings are one -/
theorem less_before : ∀ a b : List UInt8, bytesBefore a b = true → Op.bytesLess a b = true
  | [], [], h => by cases h
  | [], _ :: _, _ => rfl
  | _ :: _, [], h => by cases h
  | x :: a, y :: b, h => by
    rw [bytesBefore, Bool.or_eq_true, Bool.and_eq_true] at h
    rw [Op.bytesLess, Bool.or_eq_true, Bool.and_eq_true]
    rcases h with h | ⟨h1, h2⟩
    · exact .inl h
    · exact .inr ⟨h1, less_before a b h2⟩
set_option maxRecDepth 100000 in
set_option maxHeartbeats 2000000 in
theorem dlrising_yes (ok1 : Nat → Prop) (v : Value) (fs : List (List UInt8 × List Nat)) (w : World) (h : Fls ok1 w v fs) (hr : fs.Pairwise fun x y => bytesBefore x.1 y.1 = true) :
    Calls Try.prog 35 #[v] w fun e w' => e = .returned (.bool true) ∧ Below w.heap.size w w' := by
  have HA : Hid (∀ W, Below w.heap.size w W → Fls ok1 W v fs) := fun W hW => h.kept hW
  have HR : Hid (fs.Pairwise fun x y => bytesBefore x.1 y.1 = true) := hr
  obtain ⟨aa, ca, hva, ha1, ha2, -⟩ := h.sh
  subst hva
  unfold maxLen at ha2
  clear h hr
  go_enter Try.func35, Try.ntmps35
  go_wp2_with fail
  go_loopw [3] (fun i wr => ∃ k : Nat, i = .int .i64 ((k + 1 : Nat) : Int) ∧ Below w.heap.size w wr) (fun i _ => fs.length - (intOf i).toNat)
  case atStart => exact ⟨0, rfl, Below.refl _ _⟩
  case round =>
    obtain ⟨k, rfl, hbel⟩ := hrel
    have HBL : Hid (Below w.heap.size w wr) := hbel
    by_cases hlt : k + 1 < fs.length
    · obtain ⟨a1, c1, e1, -, -, h1⟩ := (HA.out wr hbel).sh
      obtain ⟨b1, o1, e3, -, h3⟩ := h1 (List.ne_nil_of_length_pos (by omega))
      simp only [Value.slice.injEq] at e1
      obtain ⟨rfl, -, -⟩ := e1
      subst e3
      obtain ⟨p1, -⟩ := h3 k (by omega)
      obtain ⟨p2, -⟩ := h3 (k + 1) hlt
      have hbb := less_before _ _ ((List.pairwise_iff_getElem.1 HR.out) k (k + 1) (by omega) hlt (by omega))
      generalize fs[k].1 = n1 at *
      generalize fs[k + 1].1 = n2 at *
      unfold enS at p1 p2
      clear h1 h3 hbel
      go_wp2_with fail
      go_quiet (fail)
      go_wp2_with fail
      go_roundw
      case rel => exact ⟨k + 1, by go_num, bel_drewN HBL.out _⟩
      case measure => simp [intOf]; omega
    · go_wp2_with fail
      go_returns
      exact ⟨rfl, HBL.out⟩
/-- a cut's two cells -/
def enK (c : Int × Int) : List Value := [.int .i64 c.1, .int .i64 c.2]
theorem infoK : (Try.prog.info? 88).map (fun i => (i.zero, i.size, i.bytes)) = some (some (.agg #[.int .i64 0, .int .i64 0]), 2, 16) := by kernel_rfl
theorem flatK_at : ∀ (cs : List (Int × Int)) (j : Nat) (h : j < cs.length), (cs.flatMap enK)[j * 2]? = some (.int .i64 cs[j].1) ∧ (cs.flatMap enK)[j * 2 + 1]? = some (.int .i64 cs[j].2)
  | [], j, h => by simp at h
  | x :: r, 0, _ => by simp [enK]
  | x :: r, j + 1, h => by
    have hj : j < r.length := by simpa using h
    obtain ⟨h1, h2⟩ := flatK_at r j hj
    rw [List.flatMap_cons, show (j + 1) * 2 = (enK x).length + j * 2 by simp [enK]; omega, show (enK x).length + j * 2 + 1 = (enK x).length + (j * 2 + 1) by omega, List.getElem?_append_right (by omega), List.getElem?_append_right (by omega), Nat.add_sub_cancel_left, Nat.add_sub_cancel_left]
    simp only [List.getElem_cons_succ]
    exact ⟨h1, h2⟩
theorem cts_own {B : Nat} {w : World} {v : Value} {cs : List (Int × Int)} (h : w.ownsRow B 88 2 v cs.length (cs.flatMap enK)) : CtS w v cs := by
  obtain ⟨a, c, e, h1, h2⟩ := Mg.row_shape h
  refine ⟨a, c, e, h1, h2, fun hne => ?_⟩
  rcases h.2 with ⟨e3, h0⟩ | ⟨b, c', cur, e3, hB, -⟩
  · exact absurd (List.eq_nil_of_length_eq_zero h0) hne
  · rw [e] at e3
    simp only [Value.slice.injEq] at e3
    refine ⟨b, 0, e3.1, fun j hj => ?_⟩
    obtain ⟨f0, f1⟩ := flatK_at cs j hj
    have hr := h
    rw [e, e3.1] at hr
    have c0 := World.ownsRow.cellAt hr (j * 2) (by omega)
    have c1 := World.ownsRow.cellAt hr (j * 2 + 1) (by omega)
    rw [f0] at c0
    rw [f1] at c1
    simp only [Nat.zero_add]
    exact ⟨c0, c1⟩
/-- append of one cut, its run -/
theorem run_app1K (w : World) (ty : TypeId) (B : Nat) (v : Value) (cs : List (Int × Int)) (h : w.ownsRow B 88 2 v cs.length (cs.flatMap enK)) (g c : Nat) (x : Int × Int) (hc : LB w g 88 (enK x)) (hmax : cs.length ≤ 1000000000) (hB : B ≤ w.heap.size) : ∃ v' w', (Builtin.append_ #[23, 23] ty #[v, .slice (some ⟨g, 0, none⟩) 1 c]).run Try.prog w = .ok v' w' ∧ w'.ownsRow B 88 2 v' (cs ++ [x]).length ((cs ++ [x]).flatMap enK) ∧ Below B w w' := by
  obtain ⟨i0, hi, hq⟩ := Option.map_eq_some_iff.1 infoK
  simp only [Prod.mk.injEq] at hq
  obtain ⟨v', w', hr, h2, h3, -, h5⟩ := run_append_own_at (P := Try.prog) w B 23 ty 88 i0 _ 2 16 Try.underlying23 hi hq.1 hq.2.1 hq.2.2 rfl (by decide) v cs.length _ h ⟨g, 0, none⟩ 1 c (enK x) rfl (fun j u hj => by
    rw [Addr.add_lit, Nat.zero_add]
    exact hc.cell j u hj) (fun u hu => by
      simp [enK] at hu
      rcases hu with rfl | rfl <;> rfl) (by unfold maxLen; omega) (by omega) hB
  refine ⟨v', w', hr, ?_, (Below.refl B w).grown h3 hB fun k e => (World.ownsRow.lt h k e).1⟩
  rw [List.length_append, List.flatMap_append]
  simpa using h2
set_option maxRecDepth 100000 in
set_option maxHeartbeats 2000000 in
theorem dlmost_any (n : Nat) (w : World) (hn : n ≤ 400000000) :
    Calls Try.prog 34 #[.int .i64 (n : Int)] w fun e w' => ∃ v, e = .returned v ∧ CtS w' v (List.replicate n (4194304, 0)) ∧ Below w.heap.size w w' := by
  go_enter Try.func34, Try.ntmps34
  go_wp2_with fail
  go_loopw [3, 4] (fun o i wr => ∃ k : Nat, k ≤ n ∧ i = .int .i64 (k : Int) ∧ wr.ownsRow w.heap.size 88 2 o (List.replicate k ((4194304, 0) : Int × Int)).length ((List.replicate k ((4194304, 0) : Int × Int)).flatMap enK) ∧ Below w.heap.size w wr) (fun _ i _ => n - (intOf i).toNat)
  case atStart => exact ⟨0, Nat.zero_le _, rfl, World.ownsRow_nil _ _ _ _, Below.refl _ _⟩
  case round =>
    obtain ⟨k, hk, rfl, hrow, hb⟩ := hrel
    have HR : Hid (wr.ownsRow w.heap.size 88 2 u3 (List.replicate k ((4194304, 0) : Int × Int)).length ((List.replicate k ((4194304, 0) : Int × Int)).flatMap enK) ∧ Below w.heap.size w wr) := ⟨hrow, hb⟩
    clear hrow hb
    by_cases hlt : k < n
    · have b1 := up0 wr (.cells #[.int .i64 4194304, .int .i64 0] 88)
      obtain ⟨v', W2, hr, h2, h3⟩ := run_app1K (wr.alloc (.cells #[.int .i64 4194304, .int .i64 0] 88)) 23 w.heap.size u3 _ (Mg.row_kept HR.out.1 b1) wr.heap.size 1 (4194304, 0) (lb_new wr [.int .i64 4194304, .int .i64 0] 88) (by rw [List.length_replicate]; omega) (Nat.le_trans HR.out.2.size b1.size)
      have HX : Hid (W2.ownsRow w.heap.size 88 2 v' (List.replicate (k + 1) ((4194304, 0) : Int × Int)).length ((List.replicate (k + 1) ((4194304, 0) : Int × Int)).flatMap enK) ∧ Below w.heap.size w W2) := ⟨by rw [List.replicate_succ']; exact h2, (andThen HR.out.2 b1).trans h3⟩
      clear b1 h2 h3
      go_wp2_with (at_builtin; refine wpList_appRun rfl (.tmp 10) (.tmp 12) 23 rfl rfl rfl hr ?_)
      clear hr
      go_wp2_with fail
      go_roundw
      case rel => exact ⟨k + 1, by omega, by go_num, HX.out.1, HX.out.2⟩
      case measure => simp [intOf]; omega
    · obtain rfl : k = n := by omega
      go_wp2_with fail
      go_returns
      exact ⟨_, rfl, cts_own HR.out.1, HR.out.2⟩
end Go.Proofs.Ytjepeeopjjnglaa
