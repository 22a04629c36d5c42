/-
  Package record: Fields.
-/
import Derived.Test.YtioghecmnggehaaDoorRBase
namespace Go.Proofs.YtioghecmnggehaaDoor.Fld
open Go Go.RowKit

theorem isV_any (v : Int) (w : World) : Calls Tryd.prog 19 #[.int .i64 v] w fun e w' => e = .returned (.bool (decide (1 ≤ v) && decide (v ≤ 3))) ∧ w' = w := by
  by_cases h1 : 1 ≤ v
  · have H1 : Hid ((decide (1 ≤ v) && decide (v ≤ 3)) = decide (v ≤ 3)) := by show _ = _; rw [decide_eq_true h1, Bool.true_and]
    rw [H1.out]
    go_enter Tryd.func19, Tryd.ntmps19
    go_wp2
    go_ret
    exact ⟨rfl, rfl⟩
  · have H1 : Hid ((decide (1 ≤ v) && decide (v ≤ 3)) = false) := by show _ = _; rw [decide_eq_false h1, Bool.false_and]
    rw [H1.out]
    go_enter Tryd.func19, Tryd.ntmps19
    go_wp2
    go_ret
    exact ⟨rfl, rfl⟩
theorem isK_any (v : Int) (w : World) : Calls Tryd.prog 24 #[.int .i64 v] w fun e w' => e = .returned (.bool (decide (1 ≤ v) && decide (v ≤ 7))) ∧ w' = w := by
  by_cases h1 : 1 ≤ v
  · have H1 : Hid ((decide (1 ≤ v) && decide (v ≤ 7)) = decide (v ≤ 7)) := by show _ = _; rw [decide_eq_true h1, Bool.true_and]
    rw [H1.out]
    go_enter Tryd.func24, Tryd.ntmps24
    go_wp2
    go_ret
    exact ⟨rfl, rfl⟩
  · have H1 : Hid ((decide (1 ≤ v) && decide (v ≤ 7)) = false) := by show _ = _; rw [decide_eq_false h1, Bool.false_and]
    rw [H1.out]
    go_enter Tryd.func24, Tryd.ntmps24
    go_wp2
    go_ret
    exact ⟨rfl, rfl⟩

theorem infoRow : (Tryd.prog.info? 52).map (·.size) = some 7 := by kernel_rfl
/-- numbers that are not zero -/
def nz (l : List Int) : List Int := l.filter fun z => z != 0
theorem nz_take (l : List Int) (k : Nat) (h : k < l.length) : nz (l.take (k + 1)) = nz (l.take k) ++ (if l[k] != 0 then [l[k]] else []) := by
  unfold nz
  rw [List.take_succ_eq_append_getElem h, List.filter_append]
  simp [List.filter_cons]
theorem nz_le (l : List Int) (k : Nat) : (nz (l.take k)).length ≤ k := by
  unfold nz
  have h1 := List.length_filter_le (fun z : Int => z != 0) (l.take k)
  have h2 : (l.take k).length ≤ k := by rw [List.length_take]; omega
  omega
/-- the i-th number of an array by value -/
theorem run_index_int {P : Program} (w : World) (ta te : TypeId) (n : Nat) (l : List Int) (i : Nat) (hi : i < l.length) (hn : l.length = n) (ht : P.underlying ta = some (.array n te)) (he : P.underlying te = some (.int .i64)) (hs : (P.info? te).map (·.size) = some 1) :
    (Instr.index ta (.agg (ic l).toArray) (.int .i64 (i : Int))).run P w = .ok (.int .i64 l[i]) w := by
  have hagg : (isAgg te).run P w = .ok false w := by
    unfold isAgg
    rw [Sem.run_bind, run_underlying he w]
    rfl
  cases hq : P.info? te with
  | none => simp [hq] at hs
  | some inf =>
    have hz : inf.size = 1 := by simpa [hq] using hs
    have h2 : i < n := by omega
    simp [Instr.index, run_underlying ht, asIntOf, h2, part, hagg, sizeOf, typeInfo, hq, hz, ic, hi, go_sem]
theorem infoInt : (Tryd.prog.info? 3).map (·.size) = some 1 := by kernel_rfl

set_option maxRecDepth 100000 in
set_option maxHeartbeats 1000000 in
theorem fields_in (v k : Int) (C : List Int) (w : World) (h1 : 1 ≤ v) (h2 : v ≤ 3) (h3 : 1 ≤ k) (h4 : k ≤ 7) (hC : C.length = 7) (hR : w.rangeAt 0 ((k.toNat - 1) * 21 + (v.toNat - 1) * 7) (ic C)) :
    Calls Tryd.prog 12 #[.int .i64 v, .int .i64 k] w fun e w' => ∃ o, e = .returned o ∧ RoI w.heap.size w' o (nz C) ∧ Below w.heap.size w w' := by
  have hin := info3
  have HV : Hid ((decide (1 ≤ v) && decide (v ≤ 3)) = true) := by show _ = _; simp [h1, h2]
  have HK : Hid ((decide (1 ≤ k) && decide (k ≤ 7)) = true) := by show _ = _; simp [h3, h4]
  have HIX : Hid (∀ w' (i : Nat) (hi : i < C.length), (Instr.index 52 (.agg (ic C).toArray) (.int .i64 (i : Int))).run Tryd.prog w' = .ok (.int .i64 C[i]) w') :=
    fun w' i hi => run_index_int w' 52 3 7 C i hi hC Tryd.underlying52 Tryd.underlying3 infoInt
  have HN : Hid ((Tryd.prog.info? 52).map (·.size) = some (ic C).length) := by show _ = _; rw [ic_len, hC]; exact infoRow
  have HC : Hid (C.length = 7) := hC
  have HE : Hid (nz (C.take 7) = nz C) := by show _ = _; rw [List.take_of_length_le (by omega)]
  clear hC
  generalize ic C = D at *
  go_enter Tryd.func12, Tryd.ntmps12
  go_wp2_with fail
  refine (isV_any v _).mono ?_
  rw [HV.out]
  rintro e w1 ⟨rfl, rfl⟩
  go_wp2_with fail
  refine (isK_any k _).mono ?_
  rw [HK.out]
  rintro e w2 ⟨rfl, rfl⟩
  go_wp2_with (refine wpList_load_mid rfl 52 _ rfl 0 _ rfl D _ hR Tryd.underlying52 rfl HN.out ?_)
  clear hR HN HV HK
  go_loopw [5, 23] (fun o i wr => ∃ k : Nat, k ≤ 7 ∧ i = .int .i64 (k : Int) ∧ RoI w2.heap.size wr o (nz (C.take k)) ∧ Below w2.heap.size w2 wr) (fun _ i _ => 7 - (intOf i).toNat)
  case atStart => exact ⟨0, by omega, rfl, roI_nil _ _, Below.refl _ _⟩
  case round =>
    obtain ⟨n, hn, rfl, hro, hbel⟩ := hrel
    by_cases hlt : n < 7
    · have hnl : n < C.length := by rw [HC.out]; exact hlt
      have hix := fun w' => HIX.out w' n hnl
      have HS : Hid (nz (C.take (n + 1)) = nz (C.take n) ++ (if C[n] != 0 then [C[n]] else [])) := nz_take C n hnl
      have HL : Hid ((nz (C.take n)).length ≤ n) := nz_le C n
      generalize C[n] = x at *
      generalize nz (C.take n) = L at *
      obtain ⟨ao, cap, rfl⟩ := hro.shape
      clear HIX hnl
      by_cases hx : x = 0
      · subst hx
        have HS2 : Hid (nz (C.take (n + 1)) = L) := by show _ = _; rw [HS.out]; simp
        clear HS
        go_wp2
        go_roundw
        case rel => exact ⟨n + 1, by omega, by go_num, HS2.out ▸ hro, hbel⟩
        case measure => simp [intOf]; omega
      · have HS2 : Hid (nz (C.take (n + 1)) = L ++ [x]) := by show _ = _; rw [HS.out]; simp [hx]
        clear HS
        have HR5 : Hid (∀ o, RoI w2.heap.size (wr.alloc o) (.slice ao L.length cap) L) := fun o => hro.kept (up0 _ _)
        have HB5 : Hid (∀ o, Below w2.heap.size w2 (wr.alloc o)) := fun o => up hbel o
        have hs5 := hbel.size
        have hll : L.length ≤ 1000 := by have := HL.out; omega
        clear hro hbel HL
        go_wp2_with (at_builtin; refine wpList_app_int _ rfl (.tmp 28) (.tmp 30) 33 rfl w2.heap.size hin Tryd.underlying33 _ L rfl (HR5.out _) _ x rfl (World.cell?_alloc_new wr _ _ 0) hll (by simp; omega) ?_)
        intro v6 w6 hr6 hg6
        have HR6 : Hid (RoI w2.heap.size w6 v6 (nz (C.take (n + 1)))) := by show RoI _ _ _ _; rw [HS2.out]; exact hr6
        have HB6 : Hid (Below w2.heap.size w2 w6) := (HR5.out _).below (HB5.out _) hg6
        clear hr6 hg6 HR5 HB5
        go_wp2
        go_roundw
        case rel => exact ⟨n + 1, by omega, by go_num, HR6.out, HB6.out⟩
        case measure => simp [intOf]; omega
    · obtain rfl : n = 7 := by omega
      have hro2 : RoI w2.heap.size wr u5 (nz C) := HE.out ▸ hro
      go_wp2
      go_ret
      exact ⟨_, rfl, hro2, hbel⟩
set_option maxRecDepth 100000 in
theorem fields_out (v k : Int) (w : World) (h : ¬ (1 ≤ v ∧ v ≤ 3 ∧ 1 ≤ k ∧ k ≤ 7)) :
    Calls Tryd.prog 12 #[.int .i64 v, .int .i64 k] w fun e w' => ∃ o, e = .returned o ∧ RoI w.heap.size w' o [] ∧ Below w.heap.size w w' := by
  by_cases hv : 1 ≤ v ∧ v ≤ 3
  · have hk : ¬ (1 ≤ k ∧ k ≤ 7) := by omega
    have HV : Hid ((decide (1 ≤ v) && decide (v ≤ 3)) = true) := by show _ = _; simp [hv]
    have HK : Hid ((decide (1 ≤ k) && decide (k ≤ 7)) = false) := by show _ = _; simp; omega
    clear hv hk h
    go_enter Tryd.func12, Tryd.ntmps12
    go_wp2_with fail
    refine (isV_any v _).mono ?_
    rw [HV.out]
    rintro e w1 ⟨rfl, rfl⟩
    go_wp2_with fail
    refine (isK_any k _).mono ?_
    rw [HK.out]
    rintro e w2 ⟨rfl, rfl⟩
    go_wp2
    go_ret
    exact ⟨_, rfl, roI_nil _ _, Below.refl _ _⟩
  · have HV : Hid ((decide (1 ≤ v) && decide (v ≤ 3)) = false) := by show _ = _; simp; omega
    clear hv h
    go_enter Tryd.func12, Tryd.ntmps12
    go_wp2_with fail
    refine (isV_any v _).mono ?_
    rw [HV.out]
    rintro e w1 ⟨rfl, rfl⟩
    go_wp2
    go_ret
    exact ⟨_, rfl, roI_nil _ _, Below.refl _ _⟩
end Go.Proofs.YtioghecmnggehaaDoor.Fld
