import Derived.Test.YtenhaogheilmoaaDoorQV2
import Derived.Test.YtenhaogheilmoaaDoorQR3
import Derived.Test.YtenhaogheilmoaaDoorQG1
/-
  Package archive: recordFrame.
-/
namespace Go.Proofs.YtenhaogheilmoaaDoor
open Go Go.RowKit
open Wb

theorem infoRecA : (Tryd.prog.info? 44).map (·.size) = some 12 := by kernel_rfl
set_option maxRecDepth 100000 in
set_option maxHeartbeats 4000000 in
theorem arrecf_any (x : Nums) (nm : ByteArray) (d : Value) (l : List Nat) (vn : Nat) (w : World) (h : Bs w d l) (hT : Text.TabP 3 .i32 Text.Tx.lets w) (hG : TagsT w) (hW : Tab w) (hnm : nm.size ≤ 1000000) (hl : l.length ≤ 16384) (hx : x.nice) (hv : x.v = (vn : Int)) (hv3 : vn ≤ 3) (hc : chk x nm l = 0) (hel : (enc x nm l).length ≤ 1000000) :
    Calls Tryd.prog 18 #[rv x nm d] w fun e w' => ∃ v', e = .returned v' ∧ Own w.heap.size w' v' (fr (82 :: vn :: enc x nm l)) ∧ Below w.heap.size w w' := by
  have HE : Hid (∀ w', Below w.heap.size w w' → Calls Tryd.prog 37 #[rv x nm d] w' fun e w'' => ∃ ao cap, e = .returned (.tuple #[.slice ao (enc x nm l).length cap, .int .i64 0]) ∧ Own w'.heap.size w'' (.slice ao (enc x nm l).length cap) (enc x nm l) ∧ Below w'.heap.size w' w'') := fun w' hb => encode_ok x nm d l w' (h.kept hb) (hT.kept hb) (hG.kept hb) hnm hl hx hc
  obtain ⟨E, hE, hL, hEq⟩ : ∃ E : List Value, rv x nm d = .agg E.toArray ∧ (Tryd.prog.info? 44).map (·.size) = some E.length ∧ E = [.int .i64 x.v, .int .i64 x.k, .int .i64 x.s, .int .i64 x.p, .int .i64 x.t, .int .i64 x.a, .int .i64 x.l, .int .i64 x.c, .int .i64 x.n, .int .i64 x.i, .string nm, d] := ⟨_, rfl, infoRecA, rfl⟩
  rw [hE] at HE ⊢
  have HL : Hid _ := hL
  have HX : Hid (LB (w.alloc (.cells E.toArray 44)) w.heap.size 44 E ∧ Below w.heap.size w (w.alloc (.cells E.toArray 44))) := ⟨lb_new _ _ _, up0 _ _⟩
  have HC : Hid (∀ W, LB W w.heap.size 44 E → W.cell? ⟨w.heap.size, 0, none⟩ = some (.int .i64 (vn : Int))) := fun W k => k.cell 0 _ (by rw [hEq, hv]; rfl)
  have HF : Hid (∀ w1 ao (cap : Nat), Below w.heap.size w w1 → Own w.heap.size w1 (.slice ao (enc x nm l).length cap) (enc x nm l) → ∀ W, W = (w1.alloc (.cells #[.int .u8 (vn : Int)] 5)).alloc (.cells #[.slice (some ⟨w1.heap.size, 0, none⟩) 1 1, .slice ao (enc x nm l).length cap] 25) → Calls Tryd.prog 16 #[.int .u8 82, .slice (some ⟨w1.heap.size + 1, 0, none⟩) 2 2] W fun e w' => ∃ v', e = .returned v' ∧ Own w.heap.size w' v' (fr (82 :: vn :: enc x nm l)) ∧ Below w.heap.size w w') := fun w1 ao cap hb ho W hW' => by
    subst hW'
    have o1 : Bs (w1.alloc (.cells #[.int .u8 (vn : Int)] 5)) (.slice (some ⟨w1.heap.size, 0, none⟩) 1 1) [vn] := (Own.lit (B := w1.heap.size) w1 [vn] (fun y hy => by rw [List.mem_singleton.1 hy]; omega) (Nat.le_refl _) (by simp [maxLen]) _ rfl).bs
    have hP := ps2 (w1.alloc (.cells #[.int .u8 (vn : Int)] 5)) (w1.heap.size + 1) (by rw [heap_one]) 25 o1 (ho.bs.kept (up0 _ _))
    have hbW := up (up hb (.cells #[.int .u8 (vn : Int)] 5)) (.cells #[.slice (some ⟨w1.heap.size, 0, none⟩) 1 1, .slice ao (enc x nm l).length cap] 25)
    have hfl : [[vn], enc x nm l].flatten = vn :: enc x nm l := by simp
    have e := arframe_any 82 (by omega) _ _ _ (hW.kept hbW) hP (by simp) (by simp) (by rw [hfl, List.length_cons]; omega)
    rw [hfl] at e
    refine e.mono ?_
    rintro e w2 ⟨v2, rfl, o2, b2⟩
    exact ⟨v2, rfl, own_weak o2 hbW.size, andThen hbW b2⟩
  have hvb : (vn : Int) ≤ 3 := by omega
  clear h hT hG hW hE hL hEq hv
  go_enter Tryd.func18, Tryd.ntmps18
  go_wp2_with (first | (refine wpList_load_mid rfl 44 _ rfl w.heap.size 0 rfl E _ HX.out.1.range Tryd.underlying44 rfl HL.out ?_) | fail)
  refine (HE.out _ HX.out.2).mono ?_
  rintro e w1 ⟨ao, cap, rfl, o1, b1⟩
  have c0 := HC.out w1 (HX.out.1.kept b1)
  have H1 : Hid (Below w.heap.size w w1 ∧ Own w.heap.size w1 (.slice ao (enc x nm l).length cap) (enc x nm l)) := ⟨andThen HX.out.2 b1, own_weak o1 HX.out.2.size⟩
  clear o1 b1 HE HX HC
  go_wp2_with fail
  refine (HF.out w1 ao cap H1.out.1 H1.out.2 _ rfl).mono ?_
  rintro e w2 ⟨v2, rfl, o2, b2⟩
  go_wp2_with fail
  go_ret
  exact ⟨v2, rfl, o2, b2⟩
end Go.Proofs.YtenhaogheilmoaaDoor

/-
  Package archive: the reader's first.
-/
namespace Go.Proofs.YtenhaogheilmoaaDoor
open Go Go.RowKit
open Wb

/-- the reader in memory -/
def ARd (w : World) (g : Nat) (bv : Value) (at_ : Int) (lf : Nat) (tp : Int) (vr : Value) : Prop := LB w g 60 [bv, .int .i64 at_, .int .u64 (lf : Int), .int .i64 tp, vr]
def FiPost (g : Nat) (w : World) (N : Option (Nat × Nat)) (e : Ending) (w' : World) : Prop :=
  match N with
  | none => e = .returned (.int .i64 170) ∧ w' = w
  | some (top, n) => e = .returned (.int .i64 0) ∧ w' = (w.setCell ⟨g, 3, none⟩ (.int .i64 (top : Int))).setCell ⟨g, 2, none⟩ (.int .u64 (n : Int))
set_option maxRecDepth 100000 in
set_option maxHeartbeats 4000000 in
theorem arfirst_any (g : Nat) (v : Value) (b : List Nat) (bv : Value) (at_ : Int) (lf : Nat) (tp : Int) (vr : Value) (w : World) (h : ARd w g bv at_ lf tp vr) (hb : Bs w v b) (h0 : 0 < b.length) (hl : b.length ≤ 1048576) :
    Calls Tryd.prog 51 #[.pointer (some ⟨g, 0, none⟩), v] w fun e w' => FiPost g w (Ar.nums b) e w' := by
  have HR : Hid (∀ p : Int, Calls Tryd.prog 68 #[v, .int .i64 p] w fun e w' => e = .returned (.tuple #[.int .u64 ((Wn.ru b p).1 : Int), .int .i64 (Wn.ru b p).2.1, .int .i64 ((Wn.ru b p).2.2 : Int)]) ∧ w = w') := fun p => readUint_any v b p w hb (by omega)
  have h : LB w g 60 [bv, .int .i64 at_, .int .u64 (lf : Int), .int .i64 tp, vr] := h
  obtain ⟨ao, cap, rfl, hc1, hc2, -, hcl⟩ := hb.shape
  obtain ⟨bb, off, rfl, hcell⟩ := hcl (List.length_pos_iff.1 h0)
  have x0 : w.cell? ⟨bb, off, none⟩ = some (.int .u8 (b[0] : Int)) := by have := hcell 0 h0; simpa using this
  have hh : b.head? = some b[0] := by rw [List.head?_eq_getElem?, List.getElem?_eq_getElem h0]
  obtain ⟨c, hc⟩ : ∃ c, b[0] = c := ⟨_, rfl⟩
  rw [hc] at x0 hh
  have c2 := h.cell 2 _ rfl
  have f2 := h.free 2
  have c3 := h.cell 3 _ rfl
  have f3 := h.free 3
  unfold maxLen at hc2
  clear hc hcell hcl hb h
  obtain ⟨N, hN⟩ : ∃ N, Ar.nums b = N := ⟨_, rfl⟩
  rw [hN]
  unfold Ar.nums at hN
  rw [hh] at hN
  have hlt : 0 < b.length := h0
  by_cases k1 : c = 84
  · rw [if_neg (by rw [k1]; simp)] at hN
    have hk1 : ((c : Int) != 84) = false := by rw [k1]; rfl
    clear k1
    have HR1 : Hid _ := HR.out 1
    obtain ⟨t, p, e, hr1⟩ : ∃ t p e, Wn.ru b 1 = (t, p, e) := ⟨_, _, _, rfl⟩
    rw [hr1] at hN HR1
    simp only at hN HR1
    by_cases k2 : e ≠ 0
    · rw [if_pos (.inl k2)] at hN
      subst hN
      have hk2 : ((e : Int) != 0) = true := by simp; exact k2
      clear k2 hr1 HR
      go_enter Tryd.func51, Tryd.ntmps51
      go_wp2_with fail
      refine (show Calls Tryd.prog 68 _ w _ from HR1.out).mono ?_
      rintro e2 w1 ⟨rfl, rfl⟩
      go_wp2_with fail
      go_ret
      exact ⟨rfl, rfl⟩
    · obtain rfl : e = 0 := by omega
      by_cases k3 : 9223372036854775807 < t
      · rw [if_pos (.inr k3)] at hN
        subst hN
        have hk3 : ((9223372036854775807 : Int) < (t : Int)) = True := by simp; omega
        clear k2 hr1 HR k3
        go_enter Tryd.func51, Tryd.ntmps51
        go_wp2_with fail
        refine (show Calls Tryd.prog 68 _ w _ from HR1.out).mono ?_
        rintro e2 w1 ⟨rfl, rfl⟩
        go_wp2_with fail
        go_ret
        exact ⟨rfl, rfl⟩
      · rw [if_neg (by omega)] at hN
        have hk3 : ((9223372036854775807 : Int) < (t : Int)) = False := by simp; omega
        have ht1 : (t : Int) ≤ 9223372036854775807 := by omega
        have HR2 : Hid _ := HR.out p
        obtain ⟨n, q, f, hr2⟩ : ∃ n q f, Wn.ru b p = (n, q, f) := ⟨_, _, _, rfl⟩
        rw [hr2] at hN HR2
        simp only at hN HR2
        clear k2 k3 hr1 hr2 HR
        by_cases k4 : f ≠ 0
        · rw [if_pos (.inl k4)] at hN
          subst hN
          have hk4 : ((f : Int) != 0) = true := by simp; exact k4
          clear k4
          go_enter Tryd.func51, Tryd.ntmps51
          go_wp2_with fail
          refine (show Calls Tryd.prog 68 _ w _ from HR1.out).mono ?_
          rintro e2 w1 ⟨rfl, rfl⟩
          go_wp2_with fail
          refine (show Calls Tryd.prog 68 _ w _ from HR2.out).mono ?_
          rintro e2 w1 ⟨rfl, rfl⟩
          go_wp2_with fail
          go_ret
          exact ⟨rfl, rfl⟩
        · obtain rfl : f = 0 := by omega
          by_cases k5 : q ≠ (b.length : Int)
          · rw [if_pos (.inr k5)] at hN
            subst hN
            have hk5 : (q != (b.length : Int)) = true := by simp; exact k5
            clear k4 k5
            go_enter Tryd.func51, Tryd.ntmps51
            go_wp2_with fail
            refine (show Calls Tryd.prog 68 _ w _ from HR1.out).mono ?_
            rintro e2 w1 ⟨rfl, rfl⟩
            go_wp2_with fail
            refine (show Calls Tryd.prog 68 _ w _ from HR2.out).mono ?_
            rintro e2 w1 ⟨rfl, rfl⟩
            go_wp2_with fail
            go_ret
            exact ⟨rfl, rfl⟩
          · obtain rfl : q = (b.length : Int) := by omega
            rw [if_neg (by omega)] at hN
            subst hN
            clear k4 k5
            go_enter Tryd.func51, Tryd.ntmps51
            go_wp2_with fail
            refine (show Calls Tryd.prog 68 _ w _ from HR1.out).mono ?_
            rintro e2 w1 ⟨rfl, rfl⟩
            go_wp2_with fail
            refine (show Calls Tryd.prog 68 _ w _ from HR2.out).mono ?_
            rintro e2 w1 ⟨rfl, rfl⟩
            go_wp2_with fail
            go_ret
            exact ⟨rfl, rfl⟩
  · rw [if_pos (by simp; exact k1)] at hN
    subst hN
    have hk1 : ((c : Int) != 84) = true := by simp; omega
    clear k1 HR
    go_enter Tryd.func51, Tryd.ntmps51
    go_wp2_with fail
    go_ret
    exact ⟨rfl, rfl⟩
end Go.Proofs.YtenhaogheilmoaaDoor

/-
  bytes.HasPrefix.
-/
namespace Go.Proofs.YtenhaogheilmoaaDoor
open Go Go.RowKit
open Wb

theorem bs_take {w : World} {ao : Option Addr} {cap : Nat} {l : List Nat} (h : Bs w (.slice ao l.length cap) l) (n : Nat) (hn : n ≤ l.length) : Bs w (.slice ao n cap) (l.take n) := by
  obtain ⟨ao', cap', e, h1, h2, h3, hc⟩ := h.shape
  simp only [Value.slice.injEq] at e
  obtain ⟨rfl, _, rfl⟩ := e
  refine ⟨⟨ao, cap, by rw [List.length_take, Nat.min_eq_left hn], by rw [List.length_take]; omega, h2, h3, fun hne => ?_⟩, fun x hx => h.good x (List.mem_of_mem_take hx)⟩
  obtain ⟨b, off, e, hcell⟩ := hc (fun e => hne (by rw [e]; simp))
  refine ⟨b, off, e, fun j hj => ?_⟩
  rw [List.length_take] at hj
  rw [hcell j (by omega)]
  simp
/-- what stands behind the first k bytes -/
theorem bs_tail {w : World} {bb off cap : Nat} {b : List Nat} (h : Bs w (.slice (some ⟨bb, off, none⟩) b.length cap) b) (k : Nat) (hk : k ≤ b.length) : ∃ sv, Bs w sv (b.drop k) ∧ ((cap = k ∧ b.length = k ∧ sv = .slice (some ⟨bb, off, none⟩) 0 0) ∨ (k < cap ∧ sv = .slice (some ⟨bb, off + k, none⟩) (b.length - k) (cap - k))) := by
  obtain ⟨ao, cap', e, h1, h2, h3, hc⟩ := h.shape
  simp only [Value.slice.injEq] at e
  obtain ⟨rfl, -, rfl⟩ := e
  by_cases hlt : k < b.length
  · have e := Bs.sub h k b.length hlt (Nat.le_refl _)
    rw [List.take_length] at e
    exact ⟨_, e, .inr ⟨by omega, rfl⟩⟩
  · have hd : b.drop k = [] := List.drop_eq_nil_iff.2 (by omega)
    rw [hd]
    by_cases hcap : cap = k
    · exact ⟨_, ⟨⟨some ⟨bb, off, none⟩, 0, rfl, Nat.le_refl _, by simp [maxLen], fun e => (by cases e), fun e => absurd rfl e⟩, fun x hx => by cases hx⟩, .inl ⟨hcap, by omega, rfl⟩⟩
    · refine ⟨_, ⟨⟨some ⟨bb, off + k, none⟩, cap - k, by rw [List.length_nil, show b.length - k = 0 by omega], Nat.zero_le _, Nat.le_trans (Nat.sub_le _ _) h2, fun e => (by cases e), fun e => absurd rfl e⟩, fun x hx => by cases hx⟩, .inr ⟨by omega, rfl⟩⟩
theorem arhasp_any (va vb : Value) (a b : List Nat) (w : World) (ha : Bs w va a) (hb : Bs w vb b) : Calls Tryd.prog 28 #[va, vb] w fun e w' => e = .returned (.bool (decide (a.take b.length = b))) ∧ w' = w := by
  obtain ⟨aa, ca, rfl, ha1, ha2, ha3, -⟩ := ha.shape
  have HE : Hid (b.length ≤ a.length → Calls Tryd.prog 49 #[.slice aa b.length ca, vb] w fun e w' => e = .returned (.bool (decide (a.take b.length = b))) ∧ w' = w) := fun hle => bequal_any _ _ _ _ w (bs_take ha b.length hle) hb
  obtain ⟨ab, cb, rfl, hb1, hb2, hb3, -⟩ := hb.shape
  unfold maxLen at ha2 hb2
  clear ha hb
  by_cases hle : b.length ≤ a.length
  · have hd : decide (b.length ≤ a.length) = true := decide_eq_true hle
    have H1 : Hid _ := HE.out hle
    clear HE
    generalize decide (a.take b.length = b) = D at *
    go_enter Tryd.func28, Tryd.ntmps28
    go_wp2_with fail
    refine (show Calls Tryd.prog 49 _ w _ from H1.out).mono ?_
    rintro e w1 ⟨rfl, rfl⟩
    go_wp2_with fail
    go_ret
    exact ⟨rfl, rfl⟩
  · have hd : decide (b.length ≤ a.length) = false := decide_eq_false hle
    have hD : decide (a.take b.length = b) = false := by
      refine decide_eq_false fun e => hle ?_
      have := congrArg List.length e
      rw [List.length_take] at this
      omega
    rw [hD]
    clear HE hD
    go_enter Tryd.func28, Tryd.ntmps28
    go_wp2_with fail
    go_ret
    exact ⟨rfl, rfl⟩
end Go.Proofs.YtenhaogheilmoaaDoor
