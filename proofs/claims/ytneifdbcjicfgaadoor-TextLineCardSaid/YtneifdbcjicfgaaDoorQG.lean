import Derived.Test.YtneifdbcjicfgaaDoorSht
import Derived.Lib.SmallJoins
import Derived.Deep.CutRange
import Derived.Deep.MidRow
import Derived.BigQuiet
import Derived.Test.YtneifdbcjicfgaaDoorQE
/-
  Package text: number, word.
-/
namespace Go.Proofs.YtneifdbcjicfgaaDoor
open Go Go.RowKit
open Tx

theorem gPow : Tryd.prog.globalNamed "internal/strconv.uint64pow10" = some 4 := by kernel_rfl
theorem gSyn : Tryd.prog.globalNamed "strconv.ErrSyntax" = some 6 := by kernel_rfl
theorem gRng : Tryd.prog.globalNamed "strconv.ErrRange" = some 7 := by kernel_rfl
/-- the library's variables that are read -/
structure NTab (w : World) : Prop where
  pow : Lib.TabIs Tryd.prog w "internal/strconv.uint64pow10" .u64 Lib.pow10Tab
  syn : ∃ tp p, w.var? Tryd.prog "strconv.ErrSyntax" = some #[.iface tp p]
  rng : ∃ tp p, w.var? Tryd.prog "strconv.ErrRange" = some #[.iface tp p]
theorem NTab.kept {w w' : World} (h : NTab w) (hb : Below w.heap.size w w') : NTab w' :=
  ⟨Joins.var_stays gPow h.pow hb (Nat.le_refl _), let ⟨tp, p, e⟩ := h.syn; ⟨tp, p, Joins.var_stays gSyn e hb (Nat.le_refl _)⟩, let ⟨tp, p, e⟩ := h.rng; ⟨tp, p, Joins.var_stays gRng e hb (Nat.le_refl _)⟩⟩
theorem andThenM {w w1 w2 : World} (h : Below w.heap.size w w1) (k : Below w1.heap.size w1 w2) : Below w.heap.size w w2 := h.trans (k.mono h.size)
theorem itoa_all (u : Int) (h0 : -9223372036854775808 ≤ u) (h1 : u ≤ 9223372036854775807) (w : World) (hT : NTab w) : Calls Tryd.prog 63 #[.int .i64 u] w fun e w' => e = .returned (.string ⟨(Lib.itoa u).toArray⟩) ∧ Below w.heap.size w w' := by
  refine (Any.strconv_Itoa laysItoa u h0 h1 w hT.pow).mono ?_
  rintro e w' ⟨rfl, k, os, rfl⟩
  refine ⟨rfl, ⟨rfl, rfl, rfl, ?_, fun j hj => ?_⟩⟩
  · show w.heap.size ≤ (w.heap ++ os).size
    rw [Array.size_append]
    omega
  · show (w.heap ++ os)[j]? = w.heap[j]?
    rw [Array.getElem?_append_left hj]
theorem atoi_good (s : ByteArray) (hs : s.size ≤ 281474976710656) (v : Int) (h : Lib.atoiAll s.data.toList = .ok v) (w : World) : Calls Tryd.prog 62 #[.string s] w fun e w' => e = .returned (.tuple #[.int .i64 v, .nilIface]) ∧ Below w.heap.size w w' := by
  refine (Any.strconv_Atoi_ok laysAtoi s (by omega) v h w).mono ?_
  rintro e w' ⟨rfl, rfl | ⟨t, rfl⟩⟩
  · exact ⟨rfl, Below.refl _ _⟩
  · exact ⟨rfl, Lib.bytesWorld_below _ _ _⟩
theorem atoi_bad (s : ByteArray) (hs : s.size ≤ 281474976710656) (h : ∀ v, Lib.atoiAll s.data.toList ≠ .ok v) (w : World) (hT : NTab w) : Calls Tryd.prog 62 #[.string s] w fun e w' => ∃ z t p, e = .returned (.tuple #[.int .i64 z, .iface t (.pointer p)]) ∧ Below w.heap.size w w' := by
  cases hc : Lib.atoiAll s.data.toList with
  | ok v => exact absurd hc (h v)
  | «syntax» =>
    obtain ⟨tp, p, e⟩ := hT.syn
    refine (Any.strconv_Atoi_syntax_var laysAtoi s hs hc tp p w e).mono ?_
    rintro e w' ⟨N, rfl, _, _, hb⟩
    exact ⟨_, _, _, rfl, hb⟩
  | range =>
    obtain ⟨tp, p, e⟩ := hT.rng
    refine (Any.strconv_Atoi_range_var laysAtoi s hs hc tp p w e).mono ?_
    rintro e w' ⟨N, rfl, _, _, hb⟩
    exact ⟨_, _, _, rfl, hb⟩
theorem texts_ne {a b : ByteArray} (h : a ≠ b) : (a.toList == b.toList) = false := by
  cases hc : a.toList == b.toList with
  | false => rfl
  | true =>
    have h1 := eq_of_beq hc
    rw [ByteArray.toList_eq, ByteArray.toList_eq] at h1
    exact absurd (ByteArray.ext (Array.toList_inj.1 h1)) h
theorem wx_lt {w : World} {g : Nat} {d : Wd} (h : Wx w g d) : g < w.heap.size := by
  obtain ⟨t, h⟩ := h
  exact (Array.getElem?_eq_some_iff.1 h).1
set_option maxRecDepth 100000 in
set_option maxHeartbeats 4000000 in
theorem wnum_any (s : ByteArray) (i : Nat) (w : World) (hi : i < s.size) (hs : s.size ≤ 2000000) (hN : NTab w) (hl : among lets ((Utf8.decode s i).1 : Int) = false) (hd : dig ((Utf8.decode s i).1 : Int) = true ∨ (Utf8.decode s i).1 = 45) :
    Calls Tryd.prog 47 #[.string s, .int .i64 (i : Int)] w fun e w' => e = .returned (wans (wordP s i)) ∧ Below w.heap.size w w' := by
  have HE : Hid (wordP s i = if dEnd s (nFrom s i) = nFrom s i then .inr (22, (i : Int)) else match numP (s.extract i (dEnd s (nFrom s i))).data.toList with | none => .inr (29, (i : Int)) | some v => .inl (⟨2, (i : Int), s.extract i (dEnd s (nFrom s i)), v⟩, dEnd s (nFrom s i))) := by
    show _ = _
    unfold wordP
    rw [if_neg (by simp [hl]), if_pos hd]
    rfl
  have hsm : (Utf8.decode s i).1 < 128 := by
    rcases hd with h | h
    · have := dig_lt h
      omega
    · omega
  have hat := (dec_small s i hsm).2
  have hgi : (s[i]'hi).toNat = (Utf8.decode s i).1 := by rw [hat, ← at_get s i hi]
  clear hat hsm
  by_cases h45 : (Utf8.decode s i).1 = 45
  · rw [h45] at hgi
    have hnf : nFrom s i = i + 1 := by
      unfold nFrom
      rw [if_pos h45]
    rw [hnf] at HE
    clear hl hd h45 hnf
    skip
    have HBH : Hid (∀ w', Below w.heap.size w w' → Calls Tryd.prog 61 #[.string s, .int .i64 ((i : Int) + 1), .func (.func 46) #[] #[]] w' fun e w'' => e = .returned (.int .i64 (dEnd s (i + 1) : Int)) ∧ Below w'.heap.size w' w'') := fun w' _ => behindD_any s (i + 1) w' (by omega) hs
    have hdd := dEnd_digs s s.size (i + 1) (by omega) (by omega)
    have hE1 := hdd.1
    have hE2 := hdd.2.1
    clear hdd
    generalize dEnd s (i + 1) = E at *
    by_cases hEF : E = (i + 1)
    · rw [HE.out, if_pos hEF]
      clear HE
      subst hEF
      go_enter Tryd.func47, Tryd.ntmps47
      go_wp2_with fail
      refine (HBH.out _ (up0 w _)).mono ?_
      rintro e w2 ⟨rfl, b2⟩
      have HX : Hid (Wx w2 w.heap.size zeroW ∧ Below w.heap.size w w2) := ⟨(wx_new w zeroW 24).block (b2.block _ (by rw [heapW]; omega)), andThen (up0 w _) b2⟩
      clear b2 HBH
      obtain ⟨q0, q1, q2, q3⟩ := HX.out.1.cells
      simp only [zeroW] at q0 q1 q2 q3
      have z0 := HX.out.1.frozen 0
      have z1 := HX.out.1.frozen 1
      have z2 := HX.out.1.frozen 2
      have z3 := HX.out.1.frozen 3
      have HEN : Hid (Wx (store4 w2 w.heap.size ⟨0, 0, ⟨#[]⟩, 0⟩) w.heap.size ⟨0, 0, ⟨#[]⟩, 0⟩ ∧ Below w.heap.size w (store4 w2 w.heap.size ⟨0, 0, ⟨#[]⟩, 0⟩)) := ⟨HX.out.1.store _, store4_below HX.out.2 (Nat.le_refl _) _⟩
      clear HX
      go_wp2
      obtain ⟨WE, hWE⟩ : ∃ WE, WE = store4 w2 w.heap.size ⟨0, 0, ⟨#[]⟩, 0⟩ := ⟨_, rfl⟩
      rw [← hWE] at HEN
      have hWE2 : WE = ((((w2.setCell ⟨w.heap.size, 0, none⟩ (.int .i64 0)).setCell ⟨w.heap.size, 1, none⟩ (.int .i64 0)).setCell ⟨w.heap.size, 2, none⟩ (.string ⟨#[]⟩)).setCell ⟨w.heap.size, 3, none⟩ (.int .i64 0)) := hWE
      rw [← hWE2]
      clear hWE hWE2 q0 q1 q2 q3 z0 z1 z2 z3
      obtain ⟨y0, y1, y2, y3⟩ := HEN.out.1.cells
      simp only at y0 y1 y2 y3
      (try simp only [Exit.inBlock, Exit.then])
      refine bodyPost_ret (by simp [results, Tryd.results47, go_sem, y0, y1, y2, y3]; try rfl) rfl ?_
      exact ⟨rfl, HEN.out.2⟩
    · rw [HE.out, if_neg hEF]
      clear HE
      obtain ⟨t, ht⟩ : ∃ t, s.extract i E = t := ⟨_, rfl⟩
      have htz : t.size ≤ 2000000 := by rw [← ht, size_cut s i E hE2]; omega
      have HTX : Hid (s.extract i E = t) := ht
      rw [ht]
      clear ht
      unfold numP
      cases hc : Lib.atoiAll t.data.toList with
      | ok v =>
        have hvb := Lib.atoiAll_bounds hc
        have HAT : Hid (∀ w', Calls Tryd.prog 62 #[.string t] w' fun e w'' => e = .returned (.tuple #[.int .i64 v, .nilIface]) ∧ Below w'.heap.size w' w'') := fun w' => atoi_good t (by omega) v hc w'
        have HIT : Hid (∀ w', Below w.heap.size w w' → Calls Tryd.prog 63 #[.int .i64 v] w' fun e w'' => e = .returned (.string ⟨(Lib.itoa v).toArray⟩) ∧ Below w'.heap.size w' w'') := fun w' hb => itoa_all v hvb.1 hvb.2 w' (hN.kept hb)
        simp only
        by_cases he : Lib.itoa v = t.data.toList
        · rw [if_pos he]
          simp only
          have es : (⟨(Lib.itoa v).toArray⟩ : ByteArray) = t := by
            apply ByteArray.ext
            rw [he]
          rw [es] at HIT
          clear he es hc hN
          go_enter Tryd.func47, Tryd.ntmps47
          go_wp2_with fail
          refine (HBH.out _ (up0 w _)).mono ?_
          rintro e w1 ⟨rfl, b1⟩
          have HX1 : Hid (Wx w1 w.heap.size zeroW ∧ Below w.heap.size w w1) := ⟨(wx_new w zeroW 24).block (b1.block _ (by rw [heapW]; omega)), andThen (up0 w _) b1⟩
          clear b1 HBH
          go_upto_region 8 with fail
          rw [HTX.out]
          go_wp2_with fail
          refine (HAT.out _).mono ?_
          rintro e w2 ⟨rfl, b2⟩
          have HX2 : Hid (Wx w2 w.heap.size zeroW ∧ Below w.heap.size w w2) := ⟨HX1.out.1.block (b2.block _ (wx_lt HX1.out.1)), andThen HX1.out.2 b2⟩
          clear b2 HAT HX1
          go_wp2_with fail
          refine (HIT.out _ HX2.out.2).mono ?_
          rintro e w3 ⟨rfl, b3⟩
          have HX : Hid (Wx w3 w.heap.size zeroW ∧ Below w.heap.size w w3) := ⟨HX2.out.1.block (b3.block _ (wx_lt HX2.out.1)), andThen HX2.out.2 b3⟩
          clear b3 HIT HX2
          obtain ⟨q0, q1, q2, q3⟩ := HX.out.1.cells
          simp only [zeroW] at q0 q1 q2 q3
          have z0 := HX.out.1.frozen 0
          have z1 := HX.out.1.frozen 1
          have z2 := HX.out.1.frozen 2
          have z3 := HX.out.1.frozen 3
          have HEN : Hid (Wx (store4 w3 w.heap.size ⟨2, (i : Int), t, v⟩) w.heap.size ⟨2, (i : Int), t, v⟩ ∧ Below w.heap.size w (store4 w3 w.heap.size ⟨2, (i : Int), t, v⟩)) := ⟨HX.out.1.store _, store4_below HX.out.2 (Nat.le_refl _) _⟩
          clear HX
          go_wp2
          obtain ⟨WE, hWE⟩ : ∃ WE, WE = store4 w3 w.heap.size ⟨2, (i : Int), t, v⟩ := ⟨_, rfl⟩
          rw [← hWE] at HEN
          have hWE2 : WE = ((((w3.setCell ⟨w.heap.size, 0, none⟩ (.int .i64 2)).setCell ⟨w.heap.size, 1, none⟩ (.int .i64 (i : Int))).setCell ⟨w.heap.size, 2, none⟩ (.string t)).setCell ⟨w.heap.size, 3, none⟩ (.int .i64 v)) := hWE
          rw [← hWE2]
          clear hWE hWE2 q0 q1 q2 q3 z0 z1 z2 z3
          obtain ⟨y0, y1, y2, y3⟩ := HEN.out.1.cells
          simp only at y0 y1 y2 y3
          (try simp only [Exit.inBlock, Exit.then])
          refine bodyPost_ret (by simp [results, Tryd.results47, go_sem, y0, y1, y2, y3]; try rfl) rfl ?_
          exact ⟨rfl, HEN.out.2⟩
        · rw [if_neg he]
          simp only
          have hne := texts_ne (a := ⟨(Lib.itoa v).toArray⟩) (b := t) (fun e => he (by rw [← e]))
          generalize (⟨(Lib.itoa v).toArray⟩ : ByteArray) = u at *
          clear he hc hN
          go_enter Tryd.func47, Tryd.ntmps47
          go_wp2_with fail
          refine (HBH.out _ (up0 w _)).mono ?_
          rintro e w1 ⟨rfl, b1⟩
          have HX1 : Hid (Wx w1 w.heap.size zeroW ∧ Below w.heap.size w w1) := ⟨(wx_new w zeroW 24).block (b1.block _ (by rw [heapW]; omega)), andThen (up0 w _) b1⟩
          clear b1 HBH
          go_upto_region 8 with fail
          rw [HTX.out]
          go_wp2_with fail
          refine (HAT.out _).mono ?_
          rintro e w2 ⟨rfl, b2⟩
          have HX2 : Hid (Wx w2 w.heap.size zeroW ∧ Below w.heap.size w w2) := ⟨HX1.out.1.block (b2.block _ (wx_lt HX1.out.1)), andThen HX1.out.2 b2⟩
          clear b2 HAT HX1
          go_wp2_with fail
          refine (HIT.out _ HX2.out.2).mono ?_
          rintro e w3 ⟨rfl, b3⟩
          have HX : Hid (Wx w3 w.heap.size zeroW ∧ Below w.heap.size w w3) := ⟨HX2.out.1.block (b3.block _ (wx_lt HX2.out.1)), andThen HX2.out.2 b3⟩
          clear b3 HIT HX2
          obtain ⟨q0, q1, q2, q3⟩ := HX.out.1.cells
          simp only [zeroW] at q0 q1 q2 q3
          have z0 := HX.out.1.frozen 0
          have z1 := HX.out.1.frozen 1
          have z2 := HX.out.1.frozen 2
          have z3 := HX.out.1.frozen 3
          have HEN : Hid (Wx (store4 w3 w.heap.size ⟨0, 0, ⟨#[]⟩, 0⟩) w.heap.size ⟨0, 0, ⟨#[]⟩, 0⟩ ∧ Below w.heap.size w (store4 w3 w.heap.size ⟨0, 0, ⟨#[]⟩, 0⟩)) := ⟨HX.out.1.store _, store4_below HX.out.2 (Nat.le_refl _) _⟩
          clear HX
          go_wp2
          obtain ⟨WE, hWE⟩ : ∃ WE, WE = store4 w3 w.heap.size ⟨0, 0, ⟨#[]⟩, 0⟩ := ⟨_, rfl⟩
          rw [← hWE] at HEN
          have hWE2 : WE = ((((w3.setCell ⟨w.heap.size, 0, none⟩ (.int .i64 0)).setCell ⟨w.heap.size, 1, none⟩ (.int .i64 0)).setCell ⟨w.heap.size, 2, none⟩ (.string ⟨#[]⟩)).setCell ⟨w.heap.size, 3, none⟩ (.int .i64 0)) := hWE
          rw [← hWE2]
          clear hWE hWE2 q0 q1 q2 q3 z0 z1 z2 z3
          obtain ⟨y0, y1, y2, y3⟩ := HEN.out.1.cells
          simp only at y0 y1 y2 y3
          (try simp only [Exit.inBlock, Exit.then])
          refine bodyPost_ret (by simp [results, Tryd.results47, go_sem, y0, y1, y2, y3]; try rfl) rfl ?_
          exact ⟨rfl, HEN.out.2⟩
      | _ =>
        have HAT : Hid (∀ w', Below w.heap.size w w' → Calls Tryd.prog 62 #[.string t] w' fun e w'' => ∃ z t p, e = .returned (.tuple #[.int .i64 z, .iface t (.pointer p)]) ∧ Below w'.heap.size w' w'') := fun w' hb => atoi_bad t (by omega) (fun v hv => by rw [hc] at hv; cases hv) w' (hN.kept hb)
        simp only
        clear hc hN
        go_enter Tryd.func47, Tryd.ntmps47
        go_wp2_with fail
        refine (HBH.out _ (up0 w _)).mono ?_
        rintro e w1 ⟨rfl, b1⟩
        have HX1 : Hid (Wx w1 w.heap.size zeroW ∧ Below w.heap.size w w1) := ⟨(wx_new w zeroW 24).block (b1.block _ (by rw [heapW]; omega)), andThen (up0 w _) b1⟩
        clear b1 HBH
        go_upto_region 8 with fail
        rw [HTX.out]
        go_wp2_with fail
        refine (HAT.out _ HX1.out.2).mono ?_
        rintro e w2 ⟨z, tt, p, rfl, b2⟩
        have HX : Hid (Wx w2 w.heap.size zeroW ∧ Below w.heap.size w w2) := ⟨HX1.out.1.block (b2.block _ (wx_lt HX1.out.1)), andThen HX1.out.2 b2⟩
        clear b2 HAT HX1
        obtain ⟨q0, q1, q2, q3⟩ := HX.out.1.cells
        simp only [zeroW] at q0 q1 q2 q3
        have z0 := HX.out.1.frozen 0
        have z1 := HX.out.1.frozen 1
        have z2 := HX.out.1.frozen 2
        have z3 := HX.out.1.frozen 3
        have HEN : Hid (Wx (store4 w2 w.heap.size ⟨0, 0, ⟨#[]⟩, 0⟩) w.heap.size ⟨0, 0, ⟨#[]⟩, 0⟩ ∧ Below w.heap.size w (store4 w2 w.heap.size ⟨0, 0, ⟨#[]⟩, 0⟩)) := ⟨HX.out.1.store _, store4_below HX.out.2 (Nat.le_refl _) _⟩
        clear HX
        go_wp2
        obtain ⟨WE, hWE⟩ : ∃ WE, WE = store4 w2 w.heap.size ⟨0, 0, ⟨#[]⟩, 0⟩ := ⟨_, rfl⟩
        rw [← hWE] at HEN
        have hWE2 : WE = ((((w2.setCell ⟨w.heap.size, 0, none⟩ (.int .i64 0)).setCell ⟨w.heap.size, 1, none⟩ (.int .i64 0)).setCell ⟨w.heap.size, 2, none⟩ (.string ⟨#[]⟩)).setCell ⟨w.heap.size, 3, none⟩ (.int .i64 0)) := hWE
        rw [← hWE2]
        clear hWE hWE2 q0 q1 q2 q3 z0 z1 z2 z3
        obtain ⟨y0, y1, y2, y3⟩ := HEN.out.1.cells
        simp only at y0 y1 y2 y3
        (try simp only [Exit.inBlock, Exit.then])
        refine bodyPost_ret (by simp [results, Tryd.results47, go_sem, y0, y1, y2, y3]; try rfl) rfl ?_
        exact ⟨rfl, HEN.out.2⟩
  · have hnf : nFrom s i = i := by
      unfold nFrom
      rw [if_neg h45]
    rw [hnf] at HE
    have hg2 : ¬ (s[i]'hi).toNat = 45 := by rw [hgi]; exact h45
    have hg3 : (((s[i]'hi).toNat : Int) == 45) = false := by simp; omega
    clear hl hd h45 hnf hgi
    skip
    have HBH : Hid (∀ w', Below w.heap.size w w' → Calls Tryd.prog 61 #[.string s, .int .i64 (i : Int), .func (.func 46) #[] #[]] w' fun e w'' => e = .returned (.int .i64 (dEnd s i : Int)) ∧ Below w'.heap.size w' w'') := fun w' _ => behindD_any s i w' (by omega) hs
    have hdd := dEnd_digs s s.size i (by omega) (by omega)
    have hE1 := hdd.1
    have hE2 := hdd.2.1
    clear hdd
    generalize dEnd s i = E at *
    by_cases hEF : E = i
    · rw [HE.out, if_pos hEF]
      clear HE
      subst hEF
      go_enter Tryd.func47, Tryd.ntmps47
      go_wp2_with fail
      refine (HBH.out _ (up0 w _)).mono ?_
      rintro e w2 ⟨rfl, b2⟩
      have HX : Hid (Wx w2 w.heap.size zeroW ∧ Below w.heap.size w w2) := ⟨(wx_new w zeroW 24).block (b2.block _ (by rw [heapW]; omega)), andThen (up0 w _) b2⟩
      clear b2 HBH
      obtain ⟨q0, q1, q2, q3⟩ := HX.out.1.cells
      simp only [zeroW] at q0 q1 q2 q3
      have z0 := HX.out.1.frozen 0
      have z1 := HX.out.1.frozen 1
      have z2 := HX.out.1.frozen 2
      have z3 := HX.out.1.frozen 3
      have HEN : Hid (Wx (store4 w2 w.heap.size ⟨0, 0, ⟨#[]⟩, 0⟩) w.heap.size ⟨0, 0, ⟨#[]⟩, 0⟩ ∧ Below w.heap.size w (store4 w2 w.heap.size ⟨0, 0, ⟨#[]⟩, 0⟩)) := ⟨HX.out.1.store _, store4_below HX.out.2 (Nat.le_refl _) _⟩
      clear HX
      go_wp2
      obtain ⟨WE, hWE⟩ : ∃ WE, WE = store4 w2 w.heap.size ⟨0, 0, ⟨#[]⟩, 0⟩ := ⟨_, rfl⟩
      rw [← hWE] at HEN
      have hWE2 : WE = ((((w2.setCell ⟨w.heap.size, 0, none⟩ (.int .i64 0)).setCell ⟨w.heap.size, 1, none⟩ (.int .i64 0)).setCell ⟨w.heap.size, 2, none⟩ (.string ⟨#[]⟩)).setCell ⟨w.heap.size, 3, none⟩ (.int .i64 0)) := hWE
      rw [← hWE2]
      clear hWE hWE2 q0 q1 q2 q3 z0 z1 z2 z3
      obtain ⟨y0, y1, y2, y3⟩ := HEN.out.1.cells
      simp only at y0 y1 y2 y3
      (try simp only [Exit.inBlock, Exit.then])
      refine bodyPost_ret (by simp [results, Tryd.results47, go_sem, y0, y1, y2, y3]; try rfl) rfl ?_
      exact ⟨rfl, HEN.out.2⟩
    · rw [HE.out, if_neg hEF]
      clear HE
      obtain ⟨t, ht⟩ : ∃ t, s.extract i E = t := ⟨_, rfl⟩
      have htz : t.size ≤ 2000000 := by rw [← ht, size_cut s i E hE2]; omega
      have HTX : Hid (s.extract i E = t) := ht
      rw [ht]
      clear ht
      unfold numP
      cases hc : Lib.atoiAll t.data.toList with
      | ok v =>
        have hvb := Lib.atoiAll_bounds hc
        have HAT : Hid (∀ w', Calls Tryd.prog 62 #[.string t] w' fun e w'' => e = .returned (.tuple #[.int .i64 v, .nilIface]) ∧ Below w'.heap.size w' w'') := fun w' => atoi_good t (by omega) v hc w'
        have HIT : Hid (∀ w', Below w.heap.size w w' → Calls Tryd.prog 63 #[.int .i64 v] w' fun e w'' => e = .returned (.string ⟨(Lib.itoa v).toArray⟩) ∧ Below w'.heap.size w' w'') := fun w' hb => itoa_all v hvb.1 hvb.2 w' (hN.kept hb)
        simp only
        by_cases he : Lib.itoa v = t.data.toList
        · rw [if_pos he]
          simp only
          have es : (⟨(Lib.itoa v).toArray⟩ : ByteArray) = t := by
            apply ByteArray.ext
            rw [he]
          rw [es] at HIT
          clear he es hc hN
          go_enter Tryd.func47, Tryd.ntmps47
          go_wp2_with fail
          refine (HBH.out _ (up0 w _)).mono ?_
          rintro e w1 ⟨rfl, b1⟩
          have HX1 : Hid (Wx w1 w.heap.size zeroW ∧ Below w.heap.size w w1) := ⟨(wx_new w zeroW 24).block (b1.block _ (by rw [heapW]; omega)), andThen (up0 w _) b1⟩
          clear b1 HBH
          go_upto_region 8 with fail
          rw [HTX.out]
          go_wp2_with fail
          refine (HAT.out _).mono ?_
          rintro e w2 ⟨rfl, b2⟩
          have HX2 : Hid (Wx w2 w.heap.size zeroW ∧ Below w.heap.size w w2) := ⟨HX1.out.1.block (b2.block _ (wx_lt HX1.out.1)), andThen HX1.out.2 b2⟩
          clear b2 HAT HX1
          go_wp2_with fail
          refine (HIT.out _ HX2.out.2).mono ?_
          rintro e w3 ⟨rfl, b3⟩
          have HX : Hid (Wx w3 w.heap.size zeroW ∧ Below w.heap.size w w3) := ⟨HX2.out.1.block (b3.block _ (wx_lt HX2.out.1)), andThen HX2.out.2 b3⟩
          clear b3 HIT HX2
          obtain ⟨q0, q1, q2, q3⟩ := HX.out.1.cells
          simp only [zeroW] at q0 q1 q2 q3
          have z0 := HX.out.1.frozen 0
          have z1 := HX.out.1.frozen 1
          have z2 := HX.out.1.frozen 2
          have z3 := HX.out.1.frozen 3
          have HEN : Hid (Wx (store4 w3 w.heap.size ⟨2, (i : Int), t, v⟩) w.heap.size ⟨2, (i : Int), t, v⟩ ∧ Below w.heap.size w (store4 w3 w.heap.size ⟨2, (i : Int), t, v⟩)) := ⟨HX.out.1.store _, store4_below HX.out.2 (Nat.le_refl _) _⟩
          clear HX
          go_wp2
          obtain ⟨WE, hWE⟩ : ∃ WE, WE = store4 w3 w.heap.size ⟨2, (i : Int), t, v⟩ := ⟨_, rfl⟩
          rw [← hWE] at HEN
          have hWE2 : WE = ((((w3.setCell ⟨w.heap.size, 0, none⟩ (.int .i64 2)).setCell ⟨w.heap.size, 1, none⟩ (.int .i64 (i : Int))).setCell ⟨w.heap.size, 2, none⟩ (.string t)).setCell ⟨w.heap.size, 3, none⟩ (.int .i64 v)) := hWE
          rw [← hWE2]
          clear hWE hWE2 q0 q1 q2 q3 z0 z1 z2 z3
          obtain ⟨y0, y1, y2, y3⟩ := HEN.out.1.cells
          simp only at y0 y1 y2 y3
          (try simp only [Exit.inBlock, Exit.then])
          refine bodyPost_ret (by simp [results, Tryd.results47, go_sem, y0, y1, y2, y3]; try rfl) rfl ?_
          exact ⟨rfl, HEN.out.2⟩
        · rw [if_neg he]
          simp only
          have hne := texts_ne (a := ⟨(Lib.itoa v).toArray⟩) (b := t) (fun e => he (by rw [← e]))
          generalize (⟨(Lib.itoa v).toArray⟩ : ByteArray) = u at *
          clear he hc hN
          go_enter Tryd.func47, Tryd.ntmps47
          go_wp2_with fail
          refine (HBH.out _ (up0 w _)).mono ?_
          rintro e w1 ⟨rfl, b1⟩
          have HX1 : Hid (Wx w1 w.heap.size zeroW ∧ Below w.heap.size w w1) := ⟨(wx_new w zeroW 24).block (b1.block _ (by rw [heapW]; omega)), andThen (up0 w _) b1⟩
          clear b1 HBH
          go_upto_region 8 with fail
          rw [HTX.out]
          go_wp2_with fail
          refine (HAT.out _).mono ?_
          rintro e w2 ⟨rfl, b2⟩
          have HX2 : Hid (Wx w2 w.heap.size zeroW ∧ Below w.heap.size w w2) := ⟨HX1.out.1.block (b2.block _ (wx_lt HX1.out.1)), andThen HX1.out.2 b2⟩
          clear b2 HAT HX1
          go_wp2_with fail
          refine (HIT.out _ HX2.out.2).mono ?_
          rintro e w3 ⟨rfl, b3⟩
          have HX : Hid (Wx w3 w.heap.size zeroW ∧ Below w.heap.size w w3) := ⟨HX2.out.1.block (b3.block _ (wx_lt HX2.out.1)), andThen HX2.out.2 b3⟩
          clear b3 HIT HX2
          obtain ⟨q0, q1, q2, q3⟩ := HX.out.1.cells
          simp only [zeroW] at q0 q1 q2 q3
          have z0 := HX.out.1.frozen 0
          have z1 := HX.out.1.frozen 1
          have z2 := HX.out.1.frozen 2
          have z3 := HX.out.1.frozen 3
          have HEN : Hid (Wx (store4 w3 w.heap.size ⟨0, 0, ⟨#[]⟩, 0⟩) w.heap.size ⟨0, 0, ⟨#[]⟩, 0⟩ ∧ Below w.heap.size w (store4 w3 w.heap.size ⟨0, 0, ⟨#[]⟩, 0⟩)) := ⟨HX.out.1.store _, store4_below HX.out.2 (Nat.le_refl _) _⟩
          clear HX
          go_wp2
          obtain ⟨WE, hWE⟩ : ∃ WE, WE = store4 w3 w.heap.size ⟨0, 0, ⟨#[]⟩, 0⟩ := ⟨_, rfl⟩
          rw [← hWE] at HEN
          have hWE2 : WE = ((((w3.setCell ⟨w.heap.size, 0, none⟩ (.int .i64 0)).setCell ⟨w.heap.size, 1, none⟩ (.int .i64 0)).setCell ⟨w.heap.size, 2, none⟩ (.string ⟨#[]⟩)).setCell ⟨w.heap.size, 3, none⟩ (.int .i64 0)) := hWE
          rw [← hWE2]
          clear hWE hWE2 q0 q1 q2 q3 z0 z1 z2 z3
          obtain ⟨y0, y1, y2, y3⟩ := HEN.out.1.cells
          simp only at y0 y1 y2 y3
          (try simp only [Exit.inBlock, Exit.then])
          refine bodyPost_ret (by simp [results, Tryd.results47, go_sem, y0, y1, y2, y3]; try rfl) rfl ?_
          exact ⟨rfl, HEN.out.2⟩
      | _ =>
        have HAT : Hid (∀ w', Below w.heap.size w w' → Calls Tryd.prog 62 #[.string t] w' fun e w'' => ∃ z t p, e = .returned (.tuple #[.int .i64 z, .iface t (.pointer p)]) ∧ Below w'.heap.size w' w'') := fun w' hb => atoi_bad t (by omega) (fun v hv => by rw [hc] at hv; cases hv) w' (hN.kept hb)
        simp only
        clear hc hN
        go_enter Tryd.func47, Tryd.ntmps47
        go_wp2_with fail
        refine (HBH.out _ (up0 w _)).mono ?_
        rintro e w1 ⟨rfl, b1⟩
        have HX1 : Hid (Wx w1 w.heap.size zeroW ∧ Below w.heap.size w w1) := ⟨(wx_new w zeroW 24).block (b1.block _ (by rw [heapW]; omega)), andThen (up0 w _) b1⟩
        clear b1 HBH
        go_upto_region 8 with fail
        rw [HTX.out]
        go_wp2_with fail
        refine (HAT.out _ HX1.out.2).mono ?_
        rintro e w2 ⟨z, tt, p, rfl, b2⟩
        have HX : Hid (Wx w2 w.heap.size zeroW ∧ Below w.heap.size w w2) := ⟨HX1.out.1.block (b2.block _ (wx_lt HX1.out.1)), andThen HX1.out.2 b2⟩
        clear b2 HAT HX1
        obtain ⟨q0, q1, q2, q3⟩ := HX.out.1.cells
        simp only [zeroW] at q0 q1 q2 q3
        have z0 := HX.out.1.frozen 0
        have z1 := HX.out.1.frozen 1
        have z2 := HX.out.1.frozen 2
        have z3 := HX.out.1.frozen 3
        have HEN : Hid (Wx (store4 w2 w.heap.size ⟨0, 0, ⟨#[]⟩, 0⟩) w.heap.size ⟨0, 0, ⟨#[]⟩, 0⟩ ∧ Below w.heap.size w (store4 w2 w.heap.size ⟨0, 0, ⟨#[]⟩, 0⟩)) := ⟨HX.out.1.store _, store4_below HX.out.2 (Nat.le_refl _) _⟩
        clear HX
        go_wp2
        obtain ⟨WE, hWE⟩ : ∃ WE, WE = store4 w2 w.heap.size ⟨0, 0, ⟨#[]⟩, 0⟩ := ⟨_, rfl⟩
        rw [← hWE] at HEN
        have hWE2 : WE = ((((w2.setCell ⟨w.heap.size, 0, none⟩ (.int .i64 0)).setCell ⟨w.heap.size, 1, none⟩ (.int .i64 0)).setCell ⟨w.heap.size, 2, none⟩ (.string ⟨#[]⟩)).setCell ⟨w.heap.size, 3, none⟩ (.int .i64 0)) := hWE
        rw [← hWE2]
        clear hWE hWE2 q0 q1 q2 q3 z0 z1 z2 z3
        obtain ⟨y0, y1, y2, y3⟩ := HEN.out.1.cells
        simp only at y0 y1 y2 y3
        (try simp only [Exit.inBlock, Exit.then])
        refine bodyPost_ret (by simp [results, Tryd.results47, go_sem, y0, y1, y2, y3]; try rfl) rfl ?_
        exact ⟨rfl, HEN.out.2⟩
end Go.Proofs.YtneifdbcjicfgaaDoor

/-
  Package text: word.
-/
namespace Go.Proofs.YtneifdbcjicfgaaDoor
open Go Go.RowKit
open Tx

theorem wans_form (r : (Wd × Nat) ⊕ (Int × Int)) : ∃ (d : Wd) (a c : Int), wans r = .tuple #[.agg #[.int .i64 d.k, .int .i64 d.at_, .string d.t, .int .i64 d.n], .int .i64 a, .int .i64 c] := by
  rcases r with ⟨d, e⟩ | ⟨e, p⟩
  · exact ⟨d, _, _, rfl⟩
  · exact ⟨zeroW, _, _, rfl⟩
theorem enc_cut (s : ByteArray) (i : Nat) (hi : i < s.size) (h : at' s i < 128) : Utf8.encode ((at' s i : Nat) : Int) = s.extract i (i + 1) := by
  apply ByteArray.ext
  apply Array.toList_inj.1
  rw [enc1 (at' s i) h]
  have hz : (s.extract i (i + 1)).size = 1 := by rw [size_cut s i (i + 1) (by omega)]; omega
  have hl : (s.extract i (i + 1)).data.toList.length = 1 := by
    rw [Array.length_toList]
    exact hz
  have h0 : (s.extract i (i + 1)).toList[0]? = some ((s.extract i (i + 1)).get! 0) := toList_get _ 0 (by omega)
  rw [ByteArray.toList_eq] at h0
  have h1 : at' (s.extract i (i + 1)) 0 = at' s (i + 0) := at_cut s i (i + 1) 0 (by omega) (by omega)
  cases hd : (s.extract i (i + 1)).data.toList with
  | nil => rw [hd] at hl; cases hl
  | cons x r =>
    rw [hd] at hl h0
    have hr : r = [] := by cases r with | nil => rfl | cons a b => simp at hl
    subst hr
    simp at h0
    congr 1
    apply u8_eq
    unfold at' at h1
    rw [h0]
    have h2 : (s.get! i).toNat < 128 := h
    rw [Nat.add_zero] at h1
    show (UInt8.ofNat (at' s i)).toNat = _
    rw [h1]
    exact UInt8.toNat_ofNat_of_lt' (by show (s.get! i).toNat < 256; omega)
set_option maxRecDepth 100000 in
set_option maxHeartbeats 4000000 in
theorem word_any (s : ByteArray) (i : Nat) (w : World) (hi : i < s.size) (hs : s.size ≤ 2000000) (hT : TabP 0 .i32 lets w) (hH : TabP 2 .i32 hids w) (hD : w.cell? ⟨9, 15, none⟩ = some (.int .u8 4)) (hN : NTab w) :
    Calls Tryd.prog 30 #[.string s, .int .i64 (i : Int), .int .i32 ((Utf8.decode s i).1 : Int)] w fun e w' => e = .returned (wans (wordP s i)) ∧ Below w.heap.size w w' := by
  have HLT : Hid (∀ w', Below w.heap.size w w' → Calls Tryd.prog 36 #[.int .i32 ((Utf8.decode s i).1 : Int)] w' fun e w'' => e = .returned (.bool (among lets ((Utf8.decode s i).1 : Int))) ∧ Below w'.heap.size w' w'') := fun w' hb => letter_any _ w' (hT.kept hb)
  have HDG : Hid (∀ w', Calls Tryd.prog 46 #[.int .i32 ((Utf8.decode s i).1 : Int)] w' fun e w'' => e = .returned (.bool (dig ((Utf8.decode s i).1 : Int))) ∧ w'' = w') := fun w' => digit_any _ w'
  have hval := dec_valid s i
  have HSG : Hid (∀ w', Calls Tryd.prog 44 #[.int .i32 ((Utf8.decode s i).1 : Int)] w' fun e w'' => e = .returned (.bool (sgn (Utf8.decode s i).1)) ∧ Below w'.heap.size w' w'') := fun w' => sign_any _ w' hval
  have HOD : Hid (∀ w', Calls Tryd.prog 28 #[.string s, .int .i64 (i : Int), .int .i32 ((Utf8.decode s i).1 : Int)] w' fun e w'' => e = .returned (.int .i64 (if stray s i then 21 else 22)) ∧ w'' = w') := fun w' => odd_any s i w' hi
  have hdl := decode_le s i
  obtain ⟨d, wa, wc, hw⟩ := wans_form (wordP s i)
  obtain ⟨dk, da, dt, dn⟩ := d
  simp only at hw
  obtain ⟨r, hr⟩ : ∃ r, (Utf8.decode s i).1 = r := ⟨_, rfl⟩
  have HX0 : Hid (Wx (w.alloc (.cells #[.int .i64 0, .int .i64 0, .string ⟨#[]⟩, .int .i64 0] 24)) w.heap.size zeroW ∧ Below w.heap.size w (w.alloc (.cells #[.int .i64 0, .int .i64 0, .string ⟨#[]⟩, .int .i64 0] 24))) := ⟨wx_new w zeroW 24, up0 w _⟩
  cases hl : among lets ((Utf8.decode s i).1 : Int) with
  | true =>
    have HC : Hid (∀ w', Below w.heap.size w w' → Calls Tryd.prog 45 #[.string s, .int .i64 (i : Int)] w' fun e w'' => e = .returned (.tuple #[.agg #[.int .i64 dk, .int .i64 da, .string dt, .int .i64 dn], .int .i64 wa, .int .i64 wc]) ∧ Below w'.heap.size w' w'') := fun w' hb => by
      have h9 := wname_any s i w' hi hs (hT.kept hb) hl
      rw [hw] at h9
      exact h9
    rw [hw]
    rw [hl] at HLT
    rw [hr] at HLT hdl ⊢
    clear hw hr hl HDG HSG HOD hT hH hD hN hval
    go_enter Tryd.func30, Tryd.ntmps30
    go_wp2_with fail
    refine (HLT.out _ HX0.out.2).mono ?_
    rintro e w1 ⟨rfl, b1⟩
    have HXP : Hid (Wx w1 w.heap.size zeroW ∧ Below w.heap.size w w1) := ⟨HX0.out.1.block (b1.block _ (wx_lt HX0.out.1)), andThen HX0.out.2 b1⟩
    clear b1 HLT HX0
    go_wp2_with fail
    refine (HC.out _ HXP.out.2).mono ?_
    rintro e w9 ⟨rfl, b9⟩
    have HX : Hid (Wx w9 w.heap.size zeroW ∧ Below w.heap.size w w9) := ⟨HXP.out.1.block (b9.block _ (wx_lt HXP.out.1)), andThen HXP.out.2 b9⟩
    clear b9 HC HXP
    obtain ⟨q0, q1, q2, q3⟩ := HX.out.1.cells
    simp only [zeroW] at q0 q1 q2 q3
    have z0 := HX.out.1.frozen 0
    have z1 := HX.out.1.frozen 1
    have z2 := HX.out.1.frozen 2
    have z3 := HX.out.1.frozen 3
    have HEN : Hid (Wx (store4 w9 w.heap.size ⟨dk, da, dt, dn⟩) w.heap.size ⟨dk, da, dt, dn⟩ ∧ Below w.heap.size w (store4 w9 w.heap.size ⟨dk, da, dt, dn⟩)) := ⟨HX.out.1.store _, store4_below HX.out.2 (Nat.le_refl _) _⟩
    clear HX
    go_wp2
    obtain ⟨WE, hWE⟩ : ∃ WE, WE = store4 w9 w.heap.size ⟨dk, da, dt, dn⟩ := ⟨_, rfl⟩
    rw [← hWE] at HEN
    have hWE2 : WE = ((((w9.setCell ⟨w.heap.size, 0, none⟩ (.int .i64 dk)).setCell ⟨w.heap.size, 1, none⟩ (.int .i64 da)).setCell ⟨w.heap.size, 2, none⟩ (.string dt)).setCell ⟨w.heap.size, 3, none⟩ (.int .i64 dn)) := hWE
    rw [← hWE2]
    clear hWE hWE2 q0 q1 q2 q3 z0 z1 z2 z3
    obtain ⟨y0, y1, y2, y3⟩ := HEN.out.1.cells
    simp only at y0 y1 y2 y3
    (try simp only [Exit.inBlock, Exit.then])
    refine bodyPost_ret (by simp [results, Tryd.results30, go_sem, y0, y1, y2, y3]; try rfl) rfl ?_
    exact ⟨rfl, HEN.out.2⟩
  | false =>
    by_cases hdn : dig ((Utf8.decode s i).1 : Int) = true ∨ (Utf8.decode s i).1 = 45
    · have HC : Hid (∀ w', Below w.heap.size w w' → Calls Tryd.prog 47 #[.string s, .int .i64 (i : Int)] w' fun e w'' => e = .returned (.tuple #[.agg #[.int .i64 dk, .int .i64 da, .string dt, .int .i64 dn], .int .i64 wa, .int .i64 wc]) ∧ Below w'.heap.size w' w'') := fun w' hb => by
        have h9 := wnum_any s i w' hi hs (hN.kept hb) hl hdn
        rw [hw] at h9
        exact h9
      rw [hw]
      rw [hl] at HLT
      cases hdg : dig ((Utf8.decode s i).1 : Int) with
      | true =>
        rw [hdg] at HDG
        rw [hr] at HLT HDG hdl ⊢
        clear hw hr hl HSG HOD hT hH hD hN hval hdn hdg
        go_enter Tryd.func30, Tryd.ntmps30
        go_wp2_with fail
        refine (HLT.out _ HX0.out.2).mono ?_
        rintro e w1 ⟨rfl, b1⟩
        have HXP : Hid (Wx w1 w.heap.size zeroW ∧ Below w.heap.size w w1) := ⟨HX0.out.1.block (b1.block _ (wx_lt HX0.out.1)), andThen HX0.out.2 b1⟩
        clear b1 HLT HX0
        go_wp2_with fail
        refine (HDG.out _).mono ?_
        rintro e w2 ⟨rfl, rfl⟩
        go_wp2_with fail
        refine (HC.out _ HXP.out.2).mono ?_
        rintro e w9 ⟨rfl, b9⟩
        have HX : Hid (Wx w9 w.heap.size zeroW ∧ Below w.heap.size w w9) := ⟨HXP.out.1.block (b9.block _ (wx_lt HXP.out.1)), andThen HXP.out.2 b9⟩
        clear b9 HC HXP
        obtain ⟨q0, q1, q2, q3⟩ := HX.out.1.cells
        simp only [zeroW] at q0 q1 q2 q3
        have z0 := HX.out.1.frozen 0
        have z1 := HX.out.1.frozen 1
        have z2 := HX.out.1.frozen 2
        have z3 := HX.out.1.frozen 3
        have HEN : Hid (Wx (store4 w9 w.heap.size ⟨dk, da, dt, dn⟩) w.heap.size ⟨dk, da, dt, dn⟩ ∧ Below w.heap.size w (store4 w9 w.heap.size ⟨dk, da, dt, dn⟩)) := ⟨HX.out.1.store _, store4_below HX.out.2 (Nat.le_refl _) _⟩
        clear HX
        go_wp2
        obtain ⟨WE, hWE⟩ : ∃ WE, WE = store4 w9 w.heap.size ⟨dk, da, dt, dn⟩ := ⟨_, rfl⟩
        rw [← hWE] at HEN
        have hWE2 : WE = ((((w9.setCell ⟨w.heap.size, 0, none⟩ (.int .i64 dk)).setCell ⟨w.heap.size, 1, none⟩ (.int .i64 da)).setCell ⟨w.heap.size, 2, none⟩ (.string dt)).setCell ⟨w.heap.size, 3, none⟩ (.int .i64 dn)) := hWE
        rw [← hWE2]
        clear hWE hWE2 q0 q1 q2 q3 z0 z1 z2 z3
        obtain ⟨y0, y1, y2, y3⟩ := HEN.out.1.cells
        simp only at y0 y1 y2 y3
        (try simp only [Exit.inBlock, Exit.then])
        refine bodyPost_ret (by simp [results, Tryd.results30, go_sem, y0, y1, y2, y3]; try rfl) rfl ?_
        exact ⟨rfl, HEN.out.2⟩
      | false =>
        rw [hdg] at HDG
        have hr45 : r = 45 := by
          rcases hdn with h | h
          · rw [hdg] at h; cases h
          · rw [← hr]; exact h
        rw [hr, hr45] at HLT HDG ⊢
        clear hw hr hl HSG HOD hT hH hD hN hval hdn hdg hdl hr45
        go_enter Tryd.func30, Tryd.ntmps30
        go_wp2_with fail
        refine (HLT.out _ HX0.out.2).mono ?_
        rintro e w1 ⟨rfl, b1⟩
        have HXP : Hid (Wx w1 w.heap.size zeroW ∧ Below w.heap.size w w1) := ⟨HX0.out.1.block (b1.block _ (wx_lt HX0.out.1)), andThen HX0.out.2 b1⟩
        clear b1 HLT HX0
        go_wp2_with fail
        refine (HDG.out _).mono ?_
        rintro e w2 ⟨rfl, rfl⟩
        go_wp2_with fail
        refine (HC.out _ HXP.out.2).mono ?_
        rintro e w9 ⟨rfl, b9⟩
        have HX : Hid (Wx w9 w.heap.size zeroW ∧ Below w.heap.size w w9) := ⟨HXP.out.1.block (b9.block _ (wx_lt HXP.out.1)), andThen HXP.out.2 b9⟩
        clear b9 HC HXP
        obtain ⟨q0, q1, q2, q3⟩ := HX.out.1.cells
        simp only [zeroW] at q0 q1 q2 q3
        have z0 := HX.out.1.frozen 0
        have z1 := HX.out.1.frozen 1
        have z2 := HX.out.1.frozen 2
        have z3 := HX.out.1.frozen 3
        have HEN : Hid (Wx (store4 w9 w.heap.size ⟨dk, da, dt, dn⟩) w.heap.size ⟨dk, da, dt, dn⟩ ∧ Below w.heap.size w (store4 w9 w.heap.size ⟨dk, da, dt, dn⟩)) := ⟨HX.out.1.store _, store4_below HX.out.2 (Nat.le_refl _) _⟩
        clear HX
        go_wp2
        obtain ⟨WE, hWE⟩ : ∃ WE, WE = store4 w9 w.heap.size ⟨dk, da, dt, dn⟩ := ⟨_, rfl⟩
        rw [← hWE] at HEN
        have hWE2 : WE = ((((w9.setCell ⟨w.heap.size, 0, none⟩ (.int .i64 dk)).setCell ⟨w.heap.size, 1, none⟩ (.int .i64 da)).setCell ⟨w.heap.size, 2, none⟩ (.string dt)).setCell ⟨w.heap.size, 3, none⟩ (.int .i64 dn)) := hWE
        rw [← hWE2]
        clear hWE hWE2 q0 q1 q2 q3 z0 z1 z2 z3
        obtain ⟨y0, y1, y2, y3⟩ := HEN.out.1.cells
        simp only at y0 y1 y2 y3
        (try simp only [Exit.inBlock, Exit.then])
        refine bodyPost_ret (by simp [results, Tryd.results30, go_sem, y0, y1, y2, y3]; try rfl) rfl ?_
        exact ⟨rfl, HEN.out.2⟩
    · have hdg : dig ((Utf8.decode s i).1 : Int) = false := by
        cases h : dig ((Utf8.decode s i).1 : Int) with
        | true => exact absurd (.inl h) hdn
        | false => rfl
      have h45 : ¬ r = 45 := fun e => hdn (.inr (by rw [hr]; exact e))
      have b45 : ((r : Int) == 45) = false := by simp; omega
      rw [hl] at HLT
      rw [hdg] at HDG
      by_cases h34 : (Utf8.decode s i).1 = 34
      · have HC : Hid (∀ w', Below w.heap.size w w' → Calls Tryd.prog 48 #[.string s, .int .i64 (i : Int)] w' fun e w'' => e = .returned (.tuple #[.agg #[.int .i64 dk, .int .i64 da, .string dt, .int .i64 dn], .int .i64 wa, .int .i64 wc]) ∧ Below w'.heap.size w' w'') := fun w' hb => by
          have h9 := wlit_any s i w' hs (hH.kept hb) (by rw [← hD]; exact World.cell?_of_block (hb.block _ (cell_lt hD))) hl h34
          rw [hw] at h9
          exact h9
        rw [hw]
        rw [h34] at HLT HDG ⊢
        clear hw hr hl HSG HOD hT hH hD hN hval hdn hdg hdl h45 b45 h34
        go_enter Tryd.func30, Tryd.ntmps30
        go_wp2_with fail
        refine (HLT.out _ HX0.out.2).mono ?_
        rintro e w1 ⟨rfl, b1⟩
        have HXP : Hid (Wx w1 w.heap.size zeroW ∧ Below w.heap.size w w1) := ⟨HX0.out.1.block (b1.block _ (wx_lt HX0.out.1)), andThen HX0.out.2 b1⟩
        clear b1 HLT HX0
        go_wp2_with fail
        refine (HDG.out _).mono ?_
        rintro e w2 ⟨rfl, rfl⟩
        go_wp2_with fail
        refine (HC.out _ HXP.out.2).mono ?_
        rintro e w9 ⟨rfl, b9⟩
        have HX : Hid (Wx w9 w.heap.size zeroW ∧ Below w.heap.size w w9) := ⟨HXP.out.1.block (b9.block _ (wx_lt HXP.out.1)), andThen HXP.out.2 b9⟩
        clear b9 HC HXP
        obtain ⟨q0, q1, q2, q3⟩ := HX.out.1.cells
        simp only [zeroW] at q0 q1 q2 q3
        have z0 := HX.out.1.frozen 0
        have z1 := HX.out.1.frozen 1
        have z2 := HX.out.1.frozen 2
        have z3 := HX.out.1.frozen 3
        have HEN : Hid (Wx (store4 w9 w.heap.size ⟨dk, da, dt, dn⟩) w.heap.size ⟨dk, da, dt, dn⟩ ∧ Below w.heap.size w (store4 w9 w.heap.size ⟨dk, da, dt, dn⟩)) := ⟨HX.out.1.store _, store4_below HX.out.2 (Nat.le_refl _) _⟩
        clear HX
        go_wp2
        obtain ⟨WE, hWE⟩ : ∃ WE, WE = store4 w9 w.heap.size ⟨dk, da, dt, dn⟩ := ⟨_, rfl⟩
        rw [← hWE] at HEN
        have hWE2 : WE = ((((w9.setCell ⟨w.heap.size, 0, none⟩ (.int .i64 dk)).setCell ⟨w.heap.size, 1, none⟩ (.int .i64 da)).setCell ⟨w.heap.size, 2, none⟩ (.string dt)).setCell ⟨w.heap.size, 3, none⟩ (.int .i64 dn)) := hWE
        rw [← hWE2]
        clear hWE hWE2 q0 q1 q2 q3 z0 z1 z2 z3
        obtain ⟨y0, y1, y2, y3⟩ := HEN.out.1.cells
        simp only at y0 y1 y2 y3
        (try simp only [Exit.inBlock, Exit.then])
        refine bodyPost_ret (by simp [results, Tryd.results30, go_sem, y0, y1, y2, y3]; try rfl) rfl ?_
        exact ⟨rfl, HEN.out.2⟩
      · have h34' : ¬ r = 34 := fun e => h34 (by rw [hr]; exact e)
        have b34 : ((r : Int) == 34) = false := by simp; omega
        cases hsg : sgn (Utf8.decode s i).1 with
        | true =>
          have hsm := dec_small s i (sgn_lt hsg).1
          have HE : Hid (wordP s i = .inl (⟨4, (i : Int), s.extract i (i + 1), 0⟩, i + 1)) := by
            show _ = _
            unfold wordP
            rw [if_neg (by simp [hl]), if_neg hdn, if_neg h34, if_pos hsg]
          have hra : r = at' s i := by rw [← hr, hsm.2]
          have hcv : ∀ w', (convert 21 9 (.int .i32 (r : Int))).run Tryd.prog w' = .ok (.string (s.extract i (i + 1))) w' := fun w' => by
            rw [← enc_cut s i hi hsm.1, ← hra]
            exact run_convert_int_string w' 21 9 .i32 (r : Int) (by kernel_rfl) Tryd.underlying9
          rw [HE.out]
          rw [hsg] at HSG
          rw [hr] at HLT HDG HSG hdl ⊢
          clear hw hr hl HOD hT hH hD hN hval hdn hdg h34 hsg HE hra hsm
          generalize s.extract i (i + 1) = tx at *
          go_enter Tryd.func30, Tryd.ntmps30
          go_wp2_with fail
          refine (HLT.out _ HX0.out.2).mono ?_
          rintro e w1 ⟨rfl, b1⟩
          have HXP : Hid (Wx w1 w.heap.size zeroW ∧ Below w.heap.size w w1) := ⟨HX0.out.1.block (b1.block _ (wx_lt HX0.out.1)), andThen HX0.out.2 b1⟩
          clear b1 HLT HX0
          go_wp2_with fail
          refine (HDG.out _).mono ?_
          rintro e w2 ⟨rfl, rfl⟩
          go_wp2_with fail
          refine (HSG.out _).mono ?_
          rintro e w9 ⟨rfl, b9⟩
          have HX : Hid (Wx w9 w.heap.size zeroW ∧ Below w.heap.size w w9) := ⟨HXP.out.1.block (b9.block _ (wx_lt HXP.out.1)), andThen HXP.out.2 b9⟩
          clear b9 HXP HSG
          obtain ⟨q0, q1, q2, q3⟩ := HX.out.1.cells
          simp only [zeroW] at q0 q1 q2 q3
          have z0 := HX.out.1.frozen 0
          have z1 := HX.out.1.frozen 1
          have z2 := HX.out.1.frozen 2
          have z3 := HX.out.1.frozen 3
          have HEN : Hid (Wx (store4 w9 w.heap.size ⟨4, (i : Int), tx, 0⟩) w.heap.size ⟨4, (i : Int), tx, 0⟩ ∧ Below w.heap.size w (store4 w9 w.heap.size ⟨4, (i : Int), tx, 0⟩)) := ⟨HX.out.1.store _, store4_below HX.out.2 (Nat.le_refl _) _⟩
          clear HX
          go_wp2
          obtain ⟨WE, hWE⟩ : ∃ WE, WE = store4 w9 w.heap.size ⟨4, (i : Int), tx, 0⟩ := ⟨_, rfl⟩
          rw [← hWE] at HEN
          have hWE2 : WE = ((((w9.setCell ⟨w.heap.size, 0, none⟩ (.int .i64 4)).setCell ⟨w.heap.size, 1, none⟩ (.int .i64 (i : Int))).setCell ⟨w.heap.size, 2, none⟩ (.string tx)).setCell ⟨w.heap.size, 3, none⟩ (.int .i64 0)) := hWE
          rw [← hWE2]
          clear hWE hWE2 q0 q1 q2 q3 z0 z1 z2 z3
          obtain ⟨y0, y1, y2, y3⟩ := HEN.out.1.cells
          simp only at y0 y1 y2 y3
          (try simp only [Exit.inBlock, Exit.then])
          refine bodyPost_ret (by simp [results, Tryd.results30, go_sem, y0, y1, y2, y3]; try rfl) rfl ?_
          exact ⟨rfl, HEN.out.2⟩
        | false =>
          have HE : Hid (wordP s i = .inr (if stray s i = true then 21 else 22, (i : Int))) := by
            show _ = _
            unfold wordP
            rw [if_neg (by simp [hl]), if_neg hdn, if_neg h34, if_neg (by simp [hsg])]
          rw [HE.out]
          rw [hsg] at HSG
          rw [hr] at HLT HDG HSG HOD hdl ⊢
          clear hw hr hl hT hH hD hN hval hdn hdg h34 hsg HE
          generalize (if stray s i = true then (21 : Int) else 22) = er at *
          go_enter Tryd.func30, Tryd.ntmps30
          go_wp2_with fail
          refine (HLT.out _ HX0.out.2).mono ?_
          rintro e w1 ⟨rfl, b1⟩
          have HXP : Hid (Wx w1 w.heap.size zeroW ∧ Below w.heap.size w w1) := ⟨HX0.out.1.block (b1.block _ (wx_lt HX0.out.1)), andThen HX0.out.2 b1⟩
          clear b1 HLT HX0
          go_wp2_with fail
          refine (HDG.out _).mono ?_
          rintro e w2 ⟨rfl, rfl⟩
          go_wp2_with fail
          refine (HSG.out _).mono ?_
          rintro e w9 ⟨rfl, b9⟩
          have HX : Hid (Wx w9 w.heap.size zeroW ∧ Below w.heap.size w w9) := ⟨HXP.out.1.block (b9.block _ (wx_lt HXP.out.1)), andThen HXP.out.2 b9⟩
          clear b9 HXP HSG
          go_wp2_with fail
          refine (HOD.out _).mono ?_
          rintro e w10 ⟨rfl, rfl⟩
          clear HOD
          obtain ⟨q0, q1, q2, q3⟩ := HX.out.1.cells
          simp only [zeroW] at q0 q1 q2 q3
          have z0 := HX.out.1.frozen 0
          have z1 := HX.out.1.frozen 1
          have z2 := HX.out.1.frozen 2
          have z3 := HX.out.1.frozen 3
          have HEN : Hid (Wx (store4 w10 w.heap.size ⟨0, 0, ⟨#[]⟩, 0⟩) w.heap.size ⟨0, 0, ⟨#[]⟩, 0⟩ ∧ Below w.heap.size w (store4 w10 w.heap.size ⟨0, 0, ⟨#[]⟩, 0⟩)) := ⟨HX.out.1.store _, store4_below HX.out.2 (Nat.le_refl _) _⟩
          clear HX
          go_wp2
          obtain ⟨WE, hWE⟩ : ∃ WE, WE = store4 w10 w.heap.size ⟨0, 0, ⟨#[]⟩, 0⟩ := ⟨_, rfl⟩
          rw [← hWE] at HEN
          have hWE2 : WE = ((((w10.setCell ⟨w.heap.size, 0, none⟩ (.int .i64 0)).setCell ⟨w.heap.size, 1, none⟩ (.int .i64 0)).setCell ⟨w.heap.size, 2, none⟩ (.string ⟨#[]⟩)).setCell ⟨w.heap.size, 3, none⟩ (.int .i64 0)) := hWE
          rw [← hWE2]
          clear hWE hWE2 q0 q1 q2 q3 z0 z1 z2 z3
          obtain ⟨y0, y1, y2, y3⟩ := HEN.out.1.cells
          simp only at y0 y1 y2 y3
          (try simp only [Exit.inBlock, Exit.then])
          refine bodyPost_ret (by simp [results, Tryd.results30, go_sem, y0, y1, y2, y3]; try rfl) rfl ?_
          exact ⟨rfl, HEN.out.2⟩
end Go.Proofs.YtneifdbcjicfgaaDoor

/-
  Package text: Words.
-/
namespace Go.Proofs.YtneifdbcjicfgaaDoor
open Go Go.RowKit
open Tx

def Tx.wdc (d : Wd) : List Value := [.int .i64 d.k, .int .i64 d.at_, .string d.t, .int .i64 d.n]
/-- words in a row of the call's own -/
def WdR (B : Nat) (w : World) (v : Value) (l : List Wd) : Prop := w.ownsRow B 24 4 v l.length (l.flatMap wdc)
theorem infoWd : (Tryd.prog.info? 24).map (fun i => (i.zero, i.size, i.bytes)) = some (some (.agg #[.int .i64 0, .int .i64 0, .string ⟨#[]⟩, .int .i64 0]), 4, 40) := by kernel_rfl
theorem WdR.nil (B : Nat) (w : World) : WdR B w (.slice none 0 0) [] := World.ownsRow_nil _ _ _ _
theorem WdR.block {B : Nat} {w w' : World} {v : Value} {l : List Wd} (h : WdR B w v l) (hg : ∀ g, v.ownBlock = some g → w'.heap[g]? = w.heap[g]?) : WdR B w' v l := by
  unfold WdR at h ⊢
  refine ⟨h.1, ?_⟩
  rcases h.2 with h1 | ⟨g, cap, cur, e, hb, hh, rest⟩
  · exact .inl h1
  · exact .inr ⟨g, cap, cur, e, hb, (hg g (by rw [e]; rfl)).trans hh, rest⟩
theorem WdR.kept {B : Nat} {w w' : World} {v : Value} {l : List Wd} (h : WdR B w v l) (hb : Below w.heap.size w w') : WdR B w' v l := h.block fun g hg => hb.block g (World.ownsRow.lt h g hg).2
theorem WdR.weak {B B2 : Nat} {w : World} {v : Value} {l : List Wd} (h : WdR B2 w v l) (hB : B ≤ B2) : WdR B w v l := by
  unfold WdR at h ⊢
  refine ⟨h.1, ?_⟩
  rcases h.2 with h1 | ⟨g, cap, cur, e, hb, rest⟩
  · exact .inl h1
  · exact .inr ⟨g, cap, cur, e, Nat.le_trans hB hb, rest⟩
theorem WdR.iter {B : Nat} {w : World} {v : Value} {l : List Wd} {k : Nat} (h : WdR B w v l) (hk : k < B) (s : ByteArray) (p : Nat) : WdR B (setIter w k s p) v l := h.block fun g hg => by
  have h9 := (World.ownsRow.lt h g hg).1
  show (w.heap.setIfInBounds k (.stringIter s p))[g]? = w.heap[g]?
  rw [Array.getElem?_setIfInBounds_ne (by omega)]
theorem WdR.shape {B : Nat} {w : World} {v : Value} {l : List Wd} (h : WdR B w v l) : ∃ a, ∃ c : Nat, v = .slice a l.length c := by
  rcases h.2 with ⟨rfl, h1⟩ | ⟨g, cap, cur, rfl, _⟩
  · rw [h1]
    exact ⟨_, _, rfl⟩
  · exact ⟨_, _, rfl⟩
theorem wpList_append_wd {P : Program} (w : World) {ops : Array Oper} {rest : List Oper} {o : Oper} {a : Act} {Q : Exit → Act → World → Prop} (hgd : o.guard = none) (s x : Operand) (t : TypeId)
    (ho : o.op = .call { callee := .builtin .append, args := #[s, x], argTypes := #[t, t] })
    (B : Nat) (hinfo : (P.info? 24).map (fun i => (i.zero, i.size, i.bytes)) = some (some (.agg #[.int .i64 0, .int .i64 0, .string ⟨#[]⟩, .int .i64 0]), 4, 40)) (ht : P.underlying t = some (.slice 24))
    (v : Value) (l : List Wd) (d : Wd) (hv : a.eval s = v) (h : WdR B w v l) (g : Nat) (hx : a.eval x = .slice (some ⟨g, 0, none⟩) 1 1)
    (hc : ∀ j u, (wdc d)[j]? = some u → w.cell? ⟨g, j, none⟩ = some u)
    (hmax : l.length ≤ 2000000) (hB : B ≤ w.heap.size)
    (hK : ∀ v' w', WdR B w' v' (l ++ [d]) → Below B w w' → w.grownBy w' v.ownBlock → wpList P ops Q rest (a.put o.dst v') w') : wpList P ops Q (o :: rest) a w := by
  obtain ⟨i0, hi, hz0, hz1, hz2⟩ := info_parts3 hinfo
  refine wpList_append_own_at w hgd s x t ho B 24 i0 _ 4 40 ht hi hz0 hz1 hz2 rfl (by decide) v l.length (l.flatMap wdc) hv h ⟨g, 0, none⟩ 1 1 (wdc d) hx rfl ?_ ?_ (by unfold maxLen; omega) (by omega) hB ?_
  · intro j u hj
    have := hc j u hj
    rw [Addr.add_lit, Nat.zero_add]
    exact this
  · intro u hu
    simp only [wdc, List.mem_cons, List.not_mem_nil, or_false] at hu
    rcases hu with rfl | rfl | rfl | rfl <;> rfl
  · intro v' w' h2 h3 _ _
    refine hK v' w' ?_ ((Below.refl B w).grown h3 hB (fun k hk => (World.ownsRow.lt h k hk).1)) h3
    show w'.ownsRow B 24 4 v' (l ++ [d]).length ((l ++ [d]).flatMap wdc)
    rw [List.length_append, List.flatMap_append]
    simpa using h2
theorem rune_blk (s : ByteArray) (p : Nat) : blk (Utf8.decode s p).1 = blk (at' s p) ∧ sgn (Utf8.decode s p).1 = sgn (at' s p) ∧ ((Utf8.decode s p).1 = 35 ↔ at' s p = 35) := by
  by_cases h : at' s p < 128
  · rw [dec_asc s p h]
    exact ⟨rfl, rfl, Iff.rfl⟩
  · have h1 : ¬ (Utf8.decode s p).1 < 128 := fun h2 => h (dec_small s p h2).1
    have hb : ∀ c : Nat, ¬ c < 128 → blk c = false ∧ sgn c = false := fun c hc => by
      refine ⟨?_, ?_⟩
      · unfold blk
        rw [decide_eq_false (by omega), decide_eq_false (by omega)]
        rfl
      · cases h9 : sgn c with
        | false => rfl
        | true => exact absurd (sgn_lt h9).1 hc
    rw [(hb _ h).1, (hb _ h).2, (hb _ h1).1, (hb _ h1).2]
    exact ⟨rfl, rfl, by omega⟩
theorem offs_next (s : ByteArray) (p e : Nat) (h : p < s.size) (hpe : p < e) (hm : ∃ m, offs s m p = e) : p + (Utf8.decode s p).2 ≤ e ∧ ∃ m, offs s m (p + (Utf8.decode s p).2) = e := by
  obtain ⟨m, hm⟩ := hm
  cases m with
  | zero => simp [offs] at hm; omega
  | succ m =>
    rw [offs, if_pos h] at hm
    refine ⟨?_, m, hm⟩
    rw [← hm]
    exact (offs_le s m _ (decode_fits s p h).2.1).1
theorem wds_err_nil (s : ByteArray) : ∀ (n i : Nat), s.size - i ≤ n → (wds s i).2.1 ≠ 0 → (wds s i).1 = [] := by
  intro n
  induction n with
  | zero => intro i hi h; rw [wds_out s i (by omega)]
  | succ n ih =>
    intro i hi h
    by_cases hlt : i < s.size
    · by_cases h1 : at' s i = 35
      · rw [wds_hash s i hlt h1]
      · cases h2 : blk (at' s i) with
        | true =>
          rw [wds_blank s i hlt h1 h2] at h ⊢
          exact ih (i + 1) (by omega) h
        | false =>
          cases h3 : wordP s i with
          | inr ep => rw [wds_bad s i hlt h1 h2 ep h3]
          | inl we =>
            obtain ⟨d, e⟩ := we
            rw [wds_word s i hlt h1 h2 d e h3] at h ⊢
            unfold fin at h ⊢
            by_cases h5 : (bhd s d.k e).2.1 = 0
            · rw [if_pos h5] at h
              exact absurd h5 h
            · rw [if_neg h5]
    · rw [wds_out s i hlt]
theorem fin_nil (s : ByteArray) (i : Nat) : fin [] (wds s i) = wds s i := by
  unfold fin
  by_cases h : (wds s i).2.1 = 0
  · rw [if_pos h]
    rfl
  · rw [if_neg h, Prod.ext_iff]
    exact ⟨(wds_err_nil s s.size i (by omega) h).symm, rfl⟩
end Go.Proofs.YtneifdbcjicfgaaDoor

/-
  Rows of words written over and lengthened by marks.
-/
namespace Go.Proofs.YtneifdbcjicfgaaDoor
open Go Go.RowKit
open Tx

def Tx.mkW (m : Int) : Wd := ⟨m, 0, ⟨#[]⟩, 0⟩
def Tx.filW (m : Int) (X : List Wd) (k : Nat) : List Wd := List.replicate k (mkW m) ++ X.drop k
theorem filW_len {m : Int} {X : List Wd} {k : Nat} (h : k ≤ X.length) : (filW m X k).length = X.length := by
  unfold filW
  rw [List.length_append, List.length_replicate, List.length_drop]
  omega
theorem filW_set {m : Int} {X : List Wd} {k : Nat} (h : k < X.length) : (filW m X k).set k (mkW m) = filW m X (k + 1) := by
  unfold filW
  refine List.ext_getElem? fun p => ?_
  rw [List.getElem?_set]
  by_cases hp : k = p
  · subst hp
    rw [if_pos rfl, if_pos (by rw [List.length_append, List.length_replicate, List.length_drop]; omega), List.getElem?_append_left (by rw [List.length_replicate]; omega), List.getElem?_replicate, if_pos (by omega)]
  · rw [if_neg hp]
    by_cases hlt : p < k
    · rw [List.getElem?_append_left (by rw [List.length_replicate]; omega), List.getElem?_append_left (by rw [List.length_replicate]; omega), List.getElem?_replicate, List.getElem?_replicate, if_pos hlt, if_pos (by omega)]
    · rw [List.getElem?_append_right (by rw [List.length_replicate]; omega), List.getElem?_append_right (by rw [List.length_replicate]; omega), List.length_replicate, List.length_replicate, List.getElem?_drop, List.getElem?_drop]
      congr 1
      omega
theorem filW_zero (m : Int) (X : List Wd) : filW m X 0 = X := by simp [filW]
theorem filW_end (m : Int) (X : List Wd) : filW m X X.length = List.replicate X.length (mkW m) := by simp [filW]
theorem flat_wdc_len (l : List Wd) : (l.flatMap wdc).length = l.length * 4 := by
  induction l with
  | nil => rfl
  | cons s r ih => rw [List.flatMap_cons, List.length_append, ih]; simp [wdc]; omega
theorem flat_setW : ∀ (l : List Wd) (k : Nat) (d : Wd), k < l.length → ((((l.flatMap wdc).set (k * 4) (.int .i64 d.k)).set (k * 4 + 1) (.int .i64 d.at_)).set (k * 4 + 2) (.string d.t)).set (k * 4 + 3) (.int .i64 d.n) = (l.set k d).flatMap wdc
  | [], k, d, h => by simp at h
  | s :: r, 0, d, _ => by simp [wdc]
  | s :: r, k + 1, d, h => by
    have ih := flat_setW r k d (by simpa using h)
    rw [List.set_cons_succ, List.flatMap_cons, List.flatMap_cons, ← ih, show (k + 1) * 4 = k * 4 + 4 by omega]
    simp [wdc]
theorem WdR.fill {m : Int} {B : Nat} {w : World} {a : Option Addr} {cap : Nat} {X : List Wd} {k : Nat} (h : WdR B w (.slice a X.length cap) (filW m X k)) (hk : k < X.length) :
    ∃ g, a = some ⟨g, 0, none⟩ ∧ w.there g (k * 4) 4 ∧ WdR B (w.setCells g (k * 4) [.int .i64 m, .int .i64 0, .string ⟨#[]⟩, .int .i64 0]) (.slice a X.length cap) (filW m X (k + 1)) ∧ w.grownBy (w.setCells g (k * 4) [.int .i64 m, .int .i64 0, .string ⟨#[]⟩, .int .i64 0]) (some g) ∧ B ≤ g := by
  have hl : (filW m X k).length = X.length := filW_len (by omega)
  unfold WdR at h ⊢
  rw [hl] at h
  rcases h.2 with ⟨_, h0⟩ | ⟨g, cap', cur, e, hBg, hg, hnc, hcm, hcs, htk⟩
  · omega
  · simp only [Value.slice.injEq, true_and] at e
    obtain ⟨rfl, rfl⟩ := e
    have s1 := World.ownsRow.stored h (k * 4) (.int .i64 m)
    have s2 := World.ownsRow.stored s1.1 (k * 4 + 1) (.int .i64 0)
    have s3 := World.ownsRow.stored s2.1 (k * 4 + 2) (.string ⟨#[]⟩)
    have s4 := World.ownsRow.stored s3.1 (k * 4 + 3) (.int .i64 0)
    have e9 := flat_setW (filW m X k) k (mkW m) (by omega)
    have e8 : (((((filW m X k).flatMap wdc).set (k * 4) (.int .i64 m)).set (k * 4 + 1) (.int .i64 0)).set (k * 4 + 2) (.string ⟨#[]⟩)).set (k * 4 + 3) (.int .i64 0) = (filW m X (k + 1)).flatMap wdc := by
      rw [filW_set hk] at e9
      exact e9
    have s4' := s4.1
    rw [e8] at s4'
    refine ⟨g, rfl, fun j hj => ?_, ?_, ?_, hBg⟩
    · have hfz := World.ownsRow.frozenAt h (k * 4 + j)
      refine ⟨?_, hfz⟩
      have hlf : (filW m X k |>.flatMap wdc).length = X.length * 4 := by rw [flat_wdc_len, hl]
      have hc := h.cellAt (k * 4 + j) (by omega)
      rw [hc, List.getElem?_eq_getElem (by omega)]
      rfl
    · rw [filW_len (by omega)]
      exact s4'
    · exact ⟨rfl, rfl, rfl, Nat.le_trans s1.2.size (Nat.le_trans s2.2.size (Nat.le_trans s3.2.size s4.2.size)), fun q hq hn => (((s4.2.block q (Nat.lt_of_lt_of_le hq (Nat.le_trans s1.2.size (Nat.le_trans s2.2.size s3.2.size))) hn).trans (s3.2.block q (Nat.lt_of_lt_of_le hq (Nat.le_trans s1.2.size s2.2.size)) hn)).trans (s2.2.block q (Nat.lt_of_lt_of_le hq s1.2.size) hn)).trans (s1.2.block q hq hn)⟩
def Tx.patW (m : Int) (n : Nat) : List Value := (List.replicate n (mkW m)).flatMap wdc
theorem patW_len (m : Int) (n : Nat) : (patW m n).length = n * 4 := by unfold patW; rw [flat_wdc_len, List.length_replicate]
def Tx.cellW (m : Int) (p : Nat) : Value := if p % 4 = 0 then .int .i64 m else if p % 4 = 2 then .string ⟨#[]⟩ else .int .i64 0
theorem patW_get (m : Int) : ∀ (n p : Nat), p < n * 4 → (patW m n)[p]? = some (cellW m p)
  | 0, p, h => by omega
  | n + 1, p, h => by
    have e : patW m (n + 1) = .int .i64 m :: .int .i64 0 :: .string ⟨#[]⟩ :: .int .i64 0 :: patW m n := by simp [patW, List.replicate_succ, wdc, mkW]
    rw [e]
    match p, h with
    | 0, _ => rfl
    | 1, _ => rfl
    | 2, _ => rfl
    | 3, _ => rfl
    | q + 4, h =>
      simp only [List.getElem?_cons_succ]
      rw [patW_get m n q (by omega)]
      unfold cellW
      rw [show (q + 4) % 4 = q % 4 by omega]
theorem patW_add (m : Int) (n k : Nat) : patW m n ++ patW m k = patW m (n + k) := by
  unfold patW
  rw [← List.flatMap_append, List.replicate_append_replicate]
theorem patW_one (m : Int) (n : Nat) : ∀ u ∈ patW m n, u.oneCell' = true := fun u hu => by
  unfold patW at hu
  simp only [List.mem_flatMap, wdc, List.mem_cons, List.not_mem_nil, or_false] at hu
  obtain ⟨s, _, rfl | rfl | rfl | rfl⟩ := hu <;> rfl
/-- a row of n marks -/
def MkW (m : Int) (B : Nat) (w : World) (v : Value) (n : Nat) : Prop := w.ownsRow B 24 4 v n (patW m n)
theorem mkW_of {m : Int} {B : Nat} {w : World} {v : Value} {n : Nat} (h : WdR B w v (List.replicate n (mkW m))) : MkW m B w v n := by
  unfold WdR at h
  rw [List.length_replicate] at h
  exact h
theorem MkW.wd {m : Int} {B : Nat} {w : World} {v : Value} {n : Nat} (h : MkW m B w v n) : WdR B w v (List.replicate n (mkW m)) := by
  unfold WdR
  rw [List.length_replicate]
  exact h
theorem MkW.block {m : Int} {B : Nat} {w w' : World} {v : Value} {n : Nat} (h : MkW m B w v n) (hg : ∀ g, v.ownBlock = some g → w'.heap[g]? = w.heap[g]?) : MkW m B w' v n := mkW_of (h.wd.block hg)
theorem MkW.kept {m : Int} {B : Nat} {w w' : World} {v : Value} {n : Nat} (h : MkW m B w v n) (hb : Below w.heap.size w w') : MkW m B w' v n := mkW_of (h.wd.kept hb)
theorem append_marksW {P : Program} (w : World) (B : Nat) (t ty : TypeId) (mk : Int) (hinfo : (P.info? 24).map (fun i => (i.zero, i.size, i.bytes)) = some (some (.agg #[.int .i64 0, .int .i64 0, .string ⟨#[]⟩, .int .i64 0]), 4, 40)) (ht : P.underlying t = some (.slice 24))
    (v : Value) (k m : Nat) (h : MkW mk B w v k) (gx cx : Nat) (hx : ∀ (j : Nat) (u : Value), (patW mk m)[j]? = some u → w.cell? ⟨gx, j, none⟩ = some u) (hmax : (k + m) * 40 ≤ 140737488355328) (hB : B ≤ w.heap.size) :
    ∃ v' w', (Builtin.append_ #[t, t] ty #[v, .slice (some ⟨gx, 0, none⟩) m cx]).run P w = .ok v' w' ∧ MkW mk B w' v' (k + m) ∧ w.grownBy w' v.ownBlock ∧ (v'.ownBlock = v.ownBlock ∨ v'.ownBlock = some w.heap.size) ∧
      ∀ (u : Value) (k' : Nat), MkW mk B w u k' → MkW mk B w' u k' := by
  obtain ⟨i0, hi, hz0, hz1, hz2⟩ := info_parts3 hinfo
  have hnews : ∀ j u, (patW mk m)[j]? = some u → w.cell? ((⟨gx, 0, none⟩ : Addr).add j) = some u := fun j u hj => by
    rw [Addr.add_lit, Nat.zero_add]
    exact hx j u hj
  obtain ⟨v', w', hr, h2, h3, _, h5⟩ := run_append_own_at (P := P) w B t ty 24 i0 _ 4 40 ht hi hz0 hz1 hz2 rfl (by decide) v k (patW mk k) h ⟨gx, 0, none⟩ m cx (patW mk m) (patW_len mk m) hnews (patW_one mk m) (by unfold maxLen; omega) hmax hB
  rw [patW_add] at h2
  refine ⟨v', w', hr, h2, h3, h5, fun u k' hu => ?_⟩
  by_cases hub : u.ownBlock = v.ownBlock
  · rcases hu.2 with ⟨rfl, h0⟩ | ⟨g, cap, cur, rfl, hbg, hg, hnc, hcm, hcs, htk⟩
    · exact ⟨hu.1, .inl ⟨rfl, h0⟩⟩
    · rcases h.2 with ⟨rfl, _⟩ | ⟨g', cap', cur', rfl, hbg', hg', hnc', hcm', hcs', htk'⟩
      · cases hub
      · obtain rfl : g = g' := by simpa [Value.ownBlock] using hub
        obtain rfl : cur = cur' := by
          have := hg.symm.trans hg'
          simpa using this
        have hcc : cap = cap' := by omega
        subst hcc
        by_cases hroom : k + m ≤ cap
        · have hfit : k * i0.size + (patW mk m).length ≤ cur.size := by rw [hz1, patW_len, hcs]; omega
          have hr2 := run_append_room (P := P) w t ty 24 i0 ht hi g k cap cur hg ⟨gx, 0, none⟩ m cx (patW mk m) (by rw [hz1, patW_len]) hnews (patW_one mk m) hroom hfit
          rw [hr2] at hr
          injection hr with e1 e2
          subst e1 e2
          refine ⟨hu.1, .inr ⟨g, cap, _, rfl, hbg, setRow_heap w g cur _ 24 _ hg, hnc, hcm, ?_, ?_⟩⟩
          · simp only [List.size_toArray, List.length_append, List.length_take, List.length_drop, Array.length_toList, hz1, patW_len]
            omega
          · rw [← htk, hz1, patW_len]
            have hcp : ∀ p, p < k' * 4 → cur.toList[p]? = some (cellW mk p) := fun p hp => by
              have h9 : (cur.toList.take (k' * 4))[p]? = (patW mk k')[p]? := by rw [htk]
              rw [List.getElem?_take_of_lt hp] at h9
              rw [h9, patW_get mk k' p hp]
            refine List.ext_getElem? fun p => ?_
            by_cases hp : p < k' * 4
            · rw [List.getElem?_take_of_lt hp, List.getElem?_take_of_lt hp]
              by_cases h1 : p < k * 4
              · rw [List.append_assoc, List.getElem?_append_left (by rw [List.length_take, Array.length_toList]; omega), List.getElem?_take_of_lt h1]
              · have htl : (cur.toList.take (k * 4)).length = k * 4 := by rw [List.length_take, Array.length_toList]; omega
                by_cases h2 : p < (k + m) * 4
                · rw [List.append_assoc, List.getElem?_append_right (by omega), htl, List.getElem?_append_left (by rw [patW_len]; omega), patW_get mk m (p - k * 4) (by omega), hcp p hp]
                  unfold cellW
                  rw [show (p - k * 4) % 4 = p % 4 by omega]
                · rw [List.append_assoc, List.getElem?_append_right (by omega), htl, List.getElem?_append_right (by rw [patW_len]; omega), patW_len, List.getElem?_drop]
                  congr 1
                  omega
            · rw [List.getElem?_eq_none (by rw [List.length_take]; omega), List.getElem?_eq_none (by rw [List.length_take]; omega)]
        · have holds : ∀ j u, (patW mk k)[j]? = some u → w.cell? ((⟨g, 0, none⟩ : Addr).add j) = some u := World.ownsRow.cells h (g := g) rfl
          have hr2 := run_append_grow (P := P) w t ty 24 i0 _ ht hi hz0 ⟨g, 0, none⟩ k cap (patW mk k) (by rw [hz1, patW_len]) holds ⟨gx, 0, none⟩ m cx (patW mk m) (by rw [hz1, patW_len]) hnews (by omega) (by omega) (growslice_fits (by omega) (by rw [hz2]; omega))
          rw [hr2] at hr
          injection hr with e1 e2
          subst e1 e2
          refine ⟨hu.1, .inr ⟨g, cap, cur, rfl, hbg, ?_, hnc, hcm, hcs, htk⟩⟩
          rw [← hg]
          exact (up0 w.drew _).block g (Array.getElem?_eq_some_iff.1 hg).1
  · exact hu.block fun g hg => h3.block g (World.ownsRow.lt hu g hg).2 fun e => hub (hg.trans e)
end Go.Proofs.YtneifdbcjicfgaaDoor

/-
  The law package: sameWords, marked, filled.
-/
namespace Go.Proofs.YtneifdbcjicfgaaDoor
open Go Go.RowKit
open Tx

theorem flat_wdc_get : ∀ (l : List Wd) (k : Nat) (s : Wd) (j : Nat) (u : Value), l[k]? = some s → (wdc s)[j]? = some u → (l.flatMap wdc)[k * 4 + j]? = some u
  | [], k, s, j, u, h, _ => by simp at h
  | x :: r, 0, s, j, u, h, hj => by
    simp at h
    subst h
    rw [List.flatMap_cons, Nat.zero_mul, Nat.zero_add, List.getElem?_append_left (List.getElem?_eq_some_iff.1 hj).1]
    exact hj
  | x :: r, k + 1, s, j, u, h, hj => by
    rw [List.flatMap_cons, List.getElem?_append_right (by show 4 ≤ _; omega)]
    show (r.flatMap wdc)[(k + 1) * 4 + j - 4]? = _
    rw [show (k + 1) * 4 + j - 4 = k * 4 + j by omega]
    exact flat_wdc_get r k s j u (by simpa using h) hj
/-- words in a slice -/
def WdsAt (w : World) (v : Value) (l : List Wd) : Prop := ∃ ao, ∃ cap : Nat, v = .slice ao l.length cap ∧ l.length ≤ cap ∧ cap ≤ maxLen ∧ ∀ (k : Nat) (s : Wd), l[k]? = some s → ∃ b off, ao = some ⟨b, off, none⟩ ∧ w.cell? ⟨b, off + k * 4, none⟩ = some (.int .i64 s.k) ∧ w.cell? ⟨b, off + k * 4 + 1, none⟩ = some (.int .i64 s.at_) ∧ w.cell? ⟨b, off + k * 4 + 2, none⟩ = some (.string s.t) ∧ w.cell? ⟨b, off + k * 4 + 3, none⟩ = some (.int .i64 s.n)
theorem WdR.at {B : Nat} {w : World} {v : Value} {l : List Wd} (h : WdR B w v l) : WdsAt w v l := by
  have h0 := h
  unfold WdR at h
  rcases h.2 with ⟨rfl, h1⟩ | ⟨g, cap, cur, rfl, _, hh, h1, h2, h3, h4⟩
  · obtain rfl : l = [] := List.eq_nil_of_length_eq_zero h1
    exact ⟨none, 0, rfl, Nat.le_refl _, Nat.zero_le _, fun k s hs => by simp at hs⟩
  · refine ⟨some ⟨g, 0, none⟩, cap, rfl, h1, h2, fun k s hs => ⟨g, 0, rfl, ?_⟩⟩
    have hk := (List.getElem?_eq_some_iff.1 hs).1
    have hc : ∀ j u, j < 4 → (wdc s)[j]? = some u → w.cell? ⟨g, 0 + k * 4 + j, none⟩ = some u := fun j u hj4 hj => by
      have h9 := World.ownsRow.cellAt h0 (k * 4 + j) (by omega)
      rw [Nat.zero_add, h9]
      exact flat_wdc_get l k s j u hs hj
    exact ⟨hc 0 _ (by omega) rfl, hc 1 _ (by omega) rfl, hc 2 _ (by omega) rfl, hc 3 _ (by omega) rfl⟩
set_option maxRecDepth 100000 in
set_option maxHeartbeats 4000000 in
theorem sameWords_yes (l : List Wd) (v1 v2 : Value) (w : World) (h1 : ∀ w', Below w.heap.size w w' → WdsAt w' v1 l) (h2 : ∀ w', Below w.heap.size w w' → WdsAt w' v2 l) :
    Calls Tryd.prog 10 #[v1, v2] w fun e w' => e = .returned (.bool true) ∧ Below w.heap.size w w' := by
  have HS1 : Hid (∀ w', Below w.heap.size w w' → WdsAt w' v1 l) := h1
  have HS2 : Hid (∀ w', Below w.heap.size w w' → WdsAt w' v2 l) := h2
  obtain ⟨a1, c1, rfl, hc11, hc12, _⟩ := h1 w (Below.refl _ _)
  obtain ⟨a2, c2, rfl, hc21, hc22, _⟩ := h2 w (Below.refl _ _)
  unfold maxLen at hc12 hc22
  clear h1 h2
  go_enter Tryd.func10, Tryd.ntmps10
  go_wp2
  go_loopw [5] (fun i wr => ∃ k : Nat, k ≤ l.length ∧ i = .int .i64 (k : Int) ∧ Below w.heap.size w wr) (fun i _ => l.length - (intOf i).toNat)
  case atStart => exact ⟨0, Nat.zero_le _, rfl, Below.refl _ _⟩
  case round =>
    obtain ⟨k, hk, rfl, hbel⟩ := hrel
    by_cases hlt : k < l.length
    · obtain ⟨s, hs⟩ : ∃ s, l[k]? = some s := ⟨l[k], List.getElem?_eq_getElem hlt⟩
      obtain ⟨ao1, cap1, e1, -, -, hr1⟩ := HS1.out _ hbel
      obtain ⟨ao2, cap2, e2, -, -, hr2⟩ := HS2.out _ hbel
      simp only [Value.slice.injEq] at e1 e2
      obtain ⟨rfl, -, rfl⟩ := e1
      obtain ⟨rfl, -, rfl⟩ := e2
      obtain ⟨b1, off1, rfl, x0, x1, x2, x3⟩ := hr1 k s hs
      obtain ⟨b2, off2, rfl, y0, y1, y2, y3⟩ := hr2 k s hs
      clear hr1 hr2 HS1 HS2 hs
      obtain ⟨sk, sa, st, sn⟩ := s
      simp only at x0 x1 x2 x3 y0 y1 y2 y3
      go_wp2
      go_quiet (fail)
      go_wp2
      go_roundw
      case rel => exact ⟨k + 1, by omega, by go_num, below_drewN hbel _⟩
      case measure => simp [intOf]; omega
    · obtain rfl : k = l.length := by omega
      go_wp2
      go_ret
      exact ⟨rfl, hbel⟩
set_option maxRecDepth 100000 in
set_option maxHeartbeats 4000000 in
theorem markedW_yes (m : Int) (n : Nat) (v : Value) (w : World) (h : WdsAt w v (List.replicate n (mkW m))) :
    Calls Tryd.prog 14 #[v, .int .i64 m] w fun e w' => e = .returned (.bool true) ∧ w' = w := by
  have HS : Hid (WdsAt w v (List.replicate n (mkW m))) := h
  obtain ⟨a1, c1, e1, hc1, hc2, -⟩ := h
  rw [List.length_replicate] at e1 hc1
  subst e1
  unfold maxLen at hc2
  go_enter Tryd.func14, Tryd.ntmps14
  go_wp2
  go_loopw [5] (fun i wr => ∃ k : Nat, k ≤ n ∧ i = .int .i64 (k : Int) ∧ wr = w) (fun i _ => n - (intOf i).toNat)
  case atStart => exact ⟨0, Nat.zero_le _, rfl, rfl⟩
  case round =>
    obtain ⟨k, hk, rfl, rfl⟩ := hrel
    by_cases hlt : k < n
    · obtain ⟨ao1, cap1, e1, -, -, hr1⟩ := HS.out
      rw [List.length_replicate] at e1
      simp only [Value.slice.injEq] at e1
      obtain ⟨rfl, -, rfl⟩ := e1
      obtain ⟨b1, off1, rfl, x0, x1, x2, x3⟩ := hr1 k (mkW m) (by rw [List.getElem?_replicate, if_pos hlt])
      unfold mkW at x0 x1 x2 x3
      simp only at x0 x1 x2 x3
      clear hr1 HS
      go_wp2
      go_roundw
      case rel => exact ⟨k + 1, by omega, by go_num, by first | rfl | trivial⟩
      case measure => simp [intOf]; omega
    · obtain rfl : k = n := by omega
      go_wp2
      go_ret
      exact ⟨rfl, rfl⟩
end Go.Proofs.YtneifdbcjicfgaaDoor

/-
  The law package: filled.
-/
namespace Go.Proofs.YtneifdbcjicfgaaDoor
open Go Go.RowKit
open Tx

theorem wpList_append_marksW {P : Program} (w : World) {ops : Array Oper} {rest : List Oper} {o : Oper} {a : Act} {Q : Exit → Act → World → Prop} (hgd : o.guard = none) (s x : Operand) (t : TypeId)
    (ho : o.op = .call { callee := .builtin .append, args := #[s, x], argTypes := #[t, t] })
    (B : Nat) (mk : Int) (hinfo : (P.info? 24).map (fun i => (i.zero, i.size, i.bytes)) = some (some (.agg #[.int .i64 0, .int .i64 0, .string ⟨#[]⟩, .int .i64 0]), 4, 40)) (ht : P.underlying t = some (.slice 24))
    (v : Value) (k m : Nat) (hv : a.eval s = v) (h : MkW mk B w v k) (gx cx : Nat) (hxe : a.eval x = .slice (some ⟨gx, 0, none⟩) m cx) (hx : ∀ (j : Nat) (u : Value), (patW mk m)[j]? = some u → w.cell? ⟨gx, j, none⟩ = some u) (hmax : (k + m) * 40 ≤ 140737488355328) (hB : B ≤ w.heap.size)
    (hK : ∀ v' w', MkW mk B w' v' (k + m) → w.grownBy w' v.ownBlock → (v'.ownBlock = v.ownBlock ∨ v'.ownBlock = some w.heap.size) → (∀ (u : Value) (k' : Nat), MkW mk B w u k' → MkW mk B w' u k') → wpList P ops Q rest (a.put o.dst v') w') : wpList P ops Q (o :: rest) a w := by
  obtain ⟨v', w', hr, h1, h2, h3, h4⟩ := append_marksW (P := P) w B t o.type mk hinfo ht v k m h gx cx hx hmax hB
  refine wpList_plain hgd fun _ hK' => ?_
  unfold Oper.wp
  simp [execOp, ho, resolve, invoke, builtin, hv, hxe, hr, Result.andThen]
  exact hK' _ _ (hK v' w' h1 h2 h3 h4)
theorem grown_more {a w w' : World} {row row' : Option Nat} (h : a.grownBy w row) (k : w.grownBy w' row') (hr : ∀ g, row' = some g → row = some g ∨ a.heap.size ≤ g) : a.grownBy w' row :=
  ⟨k.os.trans h.os, k.tape.trans h.tape, k.output.trans h.output, Nat.le_trans h.size k.size, fun g hg hn => (k.block g (Nat.lt_of_lt_of_le hg h.size) (fun e => by
    rcases hr g e.symm with h1 | h1
    · exact hn h1.symm
    · omega)).trans (h.block g hg hn)⟩
theorem infoWd1 : (Tryd.prog.info? 24).map (·.size) = some 4 := by kernel_rfl
set_option maxRecDepth 100000 in
set_option maxHeartbeats 4000000 in
theorem filledW_any (m : Int) (l : List Wd) (v : Value) (B : Nat) (w : World) (h : WdR B w v l) (hB : B ≤ w.heap.size) (hl : l.length ≤ 200000) :
    Calls Tryd.prog 13 #[v, .int .i64 m] w fun e w' => ∃ v', e = .returned v' ∧ MkW m B w' v' (l.length + 40) ∧ MkW m B w' v l.length ∧ w.grownBy w' v.ownBlock ∧ (∀ g, v'.ownBlock = some g → v.ownBlock = some g ∨ w.heap.size ≤ g) := by
  have hin := infoWd
  have HSZ : Hid ((Tryd.prog.info? 24).map (·.size) = some 4) := infoWd1
  have HR0 : Hid (WdR B w v (filW m l 0)) := by
    show WdR _ _ _ _
    rw [filW_zero]
    exact h
  have HBB : Hid (B ≤ w.heap.size) := hB
  obtain ⟨a, c, e⟩ := h.shape
  subst e
  clear h hB
  go_enter Tryd.func13, Tryd.ntmps13
  go_wp2
  go_loopw [5] (fun i wr => ∃ k : Nat, k ≤ l.length ∧ i = .int .i64 (k : Int) ∧ WdR B wr (.slice a l.length c) (filW m l k) ∧ w.grownBy wr (Value.slice a l.length c).ownBlock) (fun i _ => l.length - (intOf i).toNat)
  case atStart => exact ⟨0, Nat.zero_le _, rfl, HR0.out, World.grownBy.refl _ _⟩
  case round =>
    obtain ⟨k, hk, rfl, hs, hg⟩ := hrel
    clear HR0
    by_cases hlt : k < l.length
    · obtain ⟨gr, rfl, hth, hs2, hg2, hgB⟩ := WdR.fill hs hlt
      have HT : Hid (wr.there gr (k * 4) 4) := hth
      have R : Hid (WdR B (wr.setCells gr (k * 4) [.int .i64 m, .int .i64 0, .string ⟨#[]⟩, .int .i64 0]) (.slice (some ⟨gr, 0, none⟩) l.length c) (filW m l (k + 1)) ∧ w.grownBy (wr.setCells gr (k * 4) [.int .i64 m, .int .i64 0, .string ⟨#[]⟩, .int .i64 0]) (Value.slice (some ⟨gr, 0, none⟩) l.length c).ownBlock) := ⟨hs2, grown_more hg hg2 (fun g e => .inl e)⟩
      clear hs hg hs2 hg2 hgB hth
      go_wp2_with (refine wpList_store_mid rfl 24 (.tmp 17) (.tmp 16) rfl gr (k * 4) #[.int .i64 m, .int .i64 0, .string ⟨#[]⟩, .int .i64 0] ?_ ?_ ?_ ?_ ?_ ?_)
      case refine_1 => rfl
      case refine_2 => rfl
      case refine_3 => exact HT.out
      case refine_4 => exact HSZ.out
      case refine_5 =>
        refine all_oneCell_toArray (cs := [.int .i64 m, .int .i64 0, .string ⟨#[]⟩, .int .i64 0]) fun u hu => ?_
        simp only [List.mem_cons, List.not_mem_nil, or_false] at hu
        rcases hu with rfl | rfl | rfl | rfl <;> rfl
      go_roundw
      case rel => exact ⟨k + 1, by omega, by go_num, R.out.1, R.out.2⟩
      case measure => simp [intOf]; omega
    · obtain rfl : k = l.length := by omega
      rw [filW_end] at hs
      have HK : Hid (MkW m B wr (.slice a l.length c) l.length ∧ w.grownBy wr (Value.slice a l.length c).ownBlock) := ⟨mkW_of hs, hg⟩
      clear hs hg hlt hk
      go_wp2
      go_loopw [0, 6] (fun v0 vj wx => ∃ q : Nat, q ≤ 40 ∧ vj = .int .i64 (q : Int) ∧ MkW m B wx v0 (l.length + q) ∧ MkW m B wx (.slice a l.length c) l.length ∧ w.grownBy wx (Value.slice a l.length c).ownBlock ∧ (∀ g, v0.ownBlock = some g → (Value.slice a l.length c).ownBlock = some g ∨ w.heap.size ≤ g)) (fun _ vj _ => 40 - (intOf vj).toNat)
      case atStart => exact ⟨0, Nat.zero_le _, rfl, HK.out.1, HK.out.1, HK.out.2, fun g e => .inl e⟩
      case round =>
        obtain ⟨q, hq, rfl, h0, h1, hg, hc0⟩ := hrel
        clear HK
        obtain ⟨a0, c0, e0⟩ := h0.wd.shape
        rw [List.length_replicate] at e0
        subst e0
        by_cases hlt : q < 40
        · have HZ : Hid (∀ o, MkW m B (wr.alloc o) (.slice a0 (l.length + q) c0) (l.length + q) ∧ MkW m B (wr.alloc o) (.slice a l.length c) l.length ∧ w.grownBy (wr.alloc o) (Value.slice a l.length c).ownBlock ∧ B ≤ (wr.alloc o).heap.size) := fun o => by
            refine ⟨h0.kept (up0 _ _), h1.kept (up0 _ _), grown_more hg (World.grownBy_alloc wr o none) (fun g e => by cases e), ?_⟩
            have h8 := hg.size
            have h9 := HBB.out
            rw [heapW]
            omega
          have HCC : Hid (∀ t j u, (patW m 1)[j]? = some u → (wr.alloc (.cells #[.int .i64 m, .int .i64 0, .string ⟨#[]⟩, .int .i64 0] t)).cell? ⟨wr.heap.size, j, none⟩ = some u) := fun t j u hj => by
            rw [World.cell?_alloc_new]
            have e : patW m 1 = [.int .i64 m, .int .i64 0, .string ⟨#[]⟩, .int .i64 0] := by simp [patW, mkW, wdc]
            rw [e] at hj
            simpa using hj
          have HC0 : Hid (∀ g, (Value.slice a0 (l.length + q) c0).ownBlock = some g → (Value.slice a l.length c).ownBlock = some g ∨ w.heap.size ≤ g) := hc0
          have HWS : Hid (w.heap.size ≤ wr.heap.size) := hg.size
          clear h0 h1 hg hc0
          go_wp2_with (at_builtin; refine wpList_append_marksW _ rfl (.tmp 22) (.tmp 25) 25 rfl B m hin Tryd.underlying25 _ (l.length + q) 1 rfl (HZ.out _).1 _ _ rfl (HCC.out _) (by omega) (HZ.out _).2.2.2 ?_)
          intro v6 w6 hm6 hg6 hat6 hkp6
          have R : Hid (MkW m B w6 v6 (l.length + q + 1) ∧ MkW m B w6 (.slice a l.length c) l.length ∧ w.grownBy w6 (Value.slice a l.length c).ownBlock ∧ (∀ g, v6.ownBlock = some g → (Value.slice a l.length c).ownBlock = some g ∨ w.heap.size ≤ g)) := by
            refine ⟨hm6, hkp6 _ _ (HZ.out _).2.1, grown_more (HZ.out _).2.2.1 hg6 HC0.out, fun g e => ?_⟩
            rcases hat6 with e9 | e9
            · exact HC0.out g (by rw [← e9]; exact e)
            · rw [e9] at e
              have h9 := Option.some.inj e
              have h8 := HWS.out
              exact .inr (by omega)
          clear hm6 hg6 hat6 hkp6 HZ HCC
          go_wp2
          go_roundw
          case rel => exact ⟨q + 1, by omega, by go_num, R.out.1, R.out.2.1, R.out.2.2.1, R.out.2.2.2⟩
          case measure => simp [intOf]; omega
        · obtain rfl : q = 40 := by omega
          have R : Hid (MkW m B wr (.slice a0 (l.length + 40) c0) (l.length + 40) ∧ MkW m B wr (.slice a l.length c) l.length ∧ w.grownBy wr (Value.slice a l.length c).ownBlock ∧ (∀ g, (Value.slice a0 (l.length + 40) c0).ownBlock = some g → (Value.slice a l.length c).ownBlock = some g ∨ w.heap.size ≤ g)) := ⟨h0, h1, hg, hc0⟩
          clear h0 h1 hg hc0
          go_wp2
          go_ret
          exact ⟨_, rfl, R.out⟩
end Go.Proofs.YtneifdbcjicfgaaDoor
