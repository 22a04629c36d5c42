import Derived.Test.YtppabcihbpbfpaaDoorChecked
import Derived.WalkKit
import Derived.Below
import Derived.LoopN
import Derived.Handy
import Derived.Laws.BytesString
import Derived.Laws.IdiomStrings
import Derived.Laws.Rows
import Derived.Lib.SmallJoins
import Derived.Test.YtppabcihbpbfpaaDoorQKn
import Derived.Test.YtppabcihbpbfpaaDoorQKf
/-
  ManifestNames: the walks.
-/
namespace Go.Proofs.YtppabcihbpbfpaaDoor
open Go Go.RowKit

theorem gPow : Tryd.prog.globalNamed "internal/strconv.uint64pow10" = some 2 := by kernel_rfl
theorem gSyn : Tryd.prog.globalNamed "strconv.ErrSyntax" = some 0 := by kernel_rfl
theorem gRng : Tryd.prog.globalNamed "strconv.ErrRange" = some 1 := by kernel_rfl
/-- the library's variables that are read -/
structure NTab (w : World) : Prop where
  pow : Lib.TabIs Tryd.prog w "internal/strconv.uint64pow10" .u64 Lib.pow10Tab
  syn : ∃ tp p, w.var? Tryd.prog "strconv.ErrSyntax" = some #[.iface tp p]
  rng : ∃ tp p, w.var? Tryd.prog "strconv.ErrRange" = some #[.iface tp p]
theorem NTab.kept {w w' : World} (h : NTab w) (hb : Below w.heap.size w w') : NTab w' :=
  ⟨Joins.var_stays gPow h.pow hb (Nat.le_refl _), let ⟨tp, p, e⟩ := h.syn; ⟨tp, p, Joins.var_stays gSyn e hb (Nat.le_refl _)⟩, let ⟨tp, p, e⟩ := h.rng; ⟨tp, p, Joins.var_stays gRng e hb (Nat.le_refl _)⟩⟩
theorem andThenM {w w1 w2 : World} (h : Below w.heap.size w w1) (k : Below w1.heap.size w1 w2) : Below w.heap.size w w2 := h.trans (k.mono h.size)
theorem trim_any (s p : ByteArray) (w : World) : Calls Tryd.prog 40 #[.string s, .string p] w fun e w' => e = .returned (.string ⟨(Lib.trimPrefix s.data.toList p.data.toList).toArray⟩) ∧ w' = w := Any.strings_TrimPrefix laysTrim s p w
theorem itoa_pos (u : Nat) (hu : u ≤ 1099511627776) (w : World) (hT : NTab w) : Calls Tryd.prog 48 #[.int .i64 (u : Int)] w fun e w' => e = .returned (.string ⟨(Lib.decDigits u).toArray⟩) ∧ Below w.heap.size w w' := by
  refine (Any.strconv_Itoa laysItoa (u : Int) (by omega) (by omega) w hT.pow).mono ?_
  rintro e w' ⟨rfl, k, os, rfl⟩
  rw [Lib.itoa_nonneg]
  refine ⟨rfl, ⟨rfl, rfl, rfl, ?_, fun j hj => ?_⟩⟩
  · show w.heap.size ≤ (w.heap ++ os).size
    rw [Array.size_append]
    omega
  · show (w.heap ++ os)[j]? = w.heap[j]?
    rw [Array.getElem?_append_left hj]
theorem atoi_good (s : ByteArray) (hs : s.size ≤ 281474976710656) (v : Int) (h : Lib.atoiAll s.data.toList = .ok v) (w : World) : Calls Tryd.prog 39 #[.string s] w fun e w' => e = .returned (.tuple #[.int .i64 v, .nilIface]) ∧ Below w.heap.size w w' := by
  refine (Any.strconv_Atoi_ok laysAtoi s (by omega) v h w).mono ?_
  rintro e w' ⟨rfl, rfl | ⟨t, rfl⟩⟩
  · exact ⟨rfl, Below.refl _ _⟩
  · exact ⟨rfl, Lib.bytesWorld_below _ _ _⟩
theorem atoi_bad (s : ByteArray) (hs : s.size ≤ 281474976710656) (h : ∀ v, Lib.atoiAll s.data.toList ≠ .ok v) (w : World) (hT : NTab w) : Calls Tryd.prog 39 #[.string s] w fun e w' => ∃ z t p, e = .returned (.tuple #[.int .i64 z, .iface t (.pointer p)]) ∧ Below w.heap.size w w' := by
  cases hc : Lib.atoiAll s.data.toList with
  | ok v => exact absurd hc (h v)
  | «syntax» =>
    obtain ⟨tp, p, e⟩ := hT.syn
    refine (Any.strconv_Atoi_syntax_var laysAtoi s hs hc tp p w e).mono ?_
    rintro e w' ⟨N, rfl, _, _, hb⟩
    exact ⟨_, _, _, rfl, hb⟩
  | range =>
    obtain ⟨tp, p, e⟩ := hT.rng
    refine (Any.strconv_Atoi_range_var laysAtoi s hs hc tp p w e).mono ?_
    rintro e w' ⟨N, rfl, _, _, hb⟩
    exact ⟨_, _, _, rfl, hb⟩
theorem isnum_any (n : Int) (w : World) : Calls Tryd.prog 28 #[.int .i64 n] w fun e w' => e = .returned (.bool (decide (1 ≤ n ∧ n ≤ 1099511627776))) ∧ w' = w := by
  by_cases h1 : 1 ≤ n
  · by_cases h2 : n ≤ 1099511627776
    · rw [decide_eq_true ⟨h1, h2⟩]
      go_enter Tryd.func28, Tryd.ntmps28
      go_wp2
      go_ret
      exact ⟨rfl, rfl⟩
    · rw [decide_eq_false (fun h => h2 h.2)]
      go_enter Tryd.func28, Tryd.ntmps28
      go_wp2
      go_ret
      exact ⟨rfl, rfl⟩
  · rw [decide_eq_false (fun h => h1 h.1)]
    go_enter Tryd.func28, Tryd.ntmps28
    go_wp2
    go_ret
    exact ⟨rfl, rfl⟩
/-- manifest.Name -/
theorem name_any (n : Int) (w : World) (hT : NTab w) : Calls Tryd.prog 41 #[.int .i64 n] w fun e w' => e = .returned (.string ⟨(nmL n).toArray⟩) ∧ Below w.heap.size w w' := by
  have hi := isnum_any n w
  by_cases h : 1 ≤ n ∧ n ≤ 1099511627776
  · rw [decide_eq_true h] at hi
    obtain ⟨u, rfl⟩ : ∃ u : Nat, n = (u : Int) := ⟨n.toNat, by omega⟩
    rw [nm_in u (by omega) (by omega)]
    have HI := itoa_pos u (by omega) w hT
    have hl := decDigits_short 13 u (by omega)
    clear h hT
    go_enter Tryd.func41, Tryd.ntmps41
    go_wp2_with fail
    refine hi.mono ?_
    rintro e w1 ⟨rfl, rfl⟩
    go_wp2_with fail
    refine HI.mono ?_
    rintro e w2 ⟨rfl, b2⟩
    go_wp2
    go_ret
    exact ⟨rfl, b2⟩
  · rw [decide_eq_false h] at hi
    rw [nm_out n h]
    clear h hT
    go_enter Tryd.func41, Tryd.ntmps41
    go_wp2_with fail
    refine hi.mono ?_
    rintro e w1 ⟨rfl, rfl⟩
    go_wp2
    go_ret
    exact ⟨rfl, Below.refl _ _⟩
end Go.Proofs.YtppabcihbpbfpaaDoor

/-
  ManifestNames: Num, the reference's Name and Num, the law.
-/
namespace Go.Proofs.YtppabcihbpbfpaaDoor
open Go Go.RowKit

theorem rem10n (k : Nat) : Int.tmod (k : Int) 10 = ((k % 10 : Nat) : Int) := by
  rw [Int.tmod_eq_emod_of_nonneg (by omega)]
  omega
theorem quo10n (k : Nat) : Int.tdiv (k : Int) 10 = ((k / 10 : Nat) : Int) := by
  rw [Int.tdiv_eq_ediv_of_nonneg (by omega)]
  omega
theorem upM (w : World) (o : Obj) : Below w.heap.size w (w.alloc o) := (Below.refl _ w).alloc (Nat.le_refl _) o
theorem conv_one (w : World) (z : Int) (d : Nat) (hz : z = ((48 + d : Nat) : Int)) (hd : d < 10) : (convert 42 9 (.slice (some ⟨w.heap.size, 0, none⟩) 1 1)).run Tryd.prog (w.alloc (.cells #[.int .u8 z] 5)) = .ok (.string ⟨#[UInt8.ofNat (48 + d)]⟩) (w.alloc (.cells #[.int .u8 z] 5)) := by
  have h := run_convert_bytes_back (P := Tryd.prog) (w.alloc (.cells #[.int .u8 z] 5)) 42 9 5 ⟨w.heap.size, 0, none⟩ 1 [UInt8.ofNat (48 + d)] Tryd.underlying42 Tryd.underlying5 Tryd.underlying9 (fun j hj => by
    obtain rfl : j = 0 := by simpa using hj
    rw [Addr.add_lit, World.cell?_alloc_new]
    have h9 := dg_nat d hd
    simp [hz]
    omega)
  exact h
set_option maxRecDepth 100000 in
set_option maxHeartbeats 1000000 in
/-- the reference's Name -/
theorem r8name_any (n : Int) (w : World) : Calls Tryd.prog 10 #[.int .i64 n] w fun e w' => e = .returned (.string ⟨(nmL n).toArray⟩) ∧ Below w.heap.size w w' := by
  by_cases h : 1 ≤ n ∧ n ≤ 1099511627776
  · obtain ⟨u, rfl⟩ : ∃ u : Nat, n = (u : Int) := ⟨n.toNat, by omega⟩
    rw [nm_in u (by omega) (by omega)]
    have hu : u ≤ 1099511627776 := by omega
    have hu1 : 1 ≤ u := by omega
    have HL := decDigits_short 13 u (by omega)
    clear h
    go_enter Tryd.func10, Tryd.ntmps10
    go_wp2
    go_loopw [0, 3] (fun a s wr => ∃ (m : Nat) (t : List UInt8), m ≤ u ∧ a = .int .i64 (m : Int) ∧ s = .string ⟨t.toArray⟩ ∧ ((m = 0 ∧ t = Lib.decDigits u) ∨ (0 < m ∧ Lib.decDigits m ++ t = Lib.decDigits u)) ∧ Below w.heap.size w wr) (fun a _ _ => (intOf a).toNat)
    case atStart => exact ⟨u, [], Nat.le_refl _, rfl, rfl, .inr ⟨by omega, by simp⟩, Below.refl _ _⟩
    case round =>
      obtain ⟨m, t, hm, rfl, rfl, hc, hbel⟩ := hrel
      by_cases h0 : 0 < m
      · have hd : Lib.decDigits m ++ t = Lib.decDigits u := by
          rcases hc with ⟨h1, _⟩ | ⟨_, h1⟩
          · omega
          · exact h1
        have htl : t.length ≤ 14 := by
          have := congrArg List.length hd
          rw [List.length_append] at this
          omega
        have HR : Hid (((m / 10 = 0 ∧ UInt8.ofNat (48 + m % 10) :: t = Lib.decDigits u) ∨ (0 < m / 10 ∧ Lib.decDigits (m / 10) ++ (UInt8.ofNat (48 + m % 10) :: t) = Lib.decDigits u))) := by
          by_cases h10 : m < 10
          · rw [Lib.decDigits, dif_pos h10] at hd
            refine .inl ⟨by omega, ?_⟩
            rw [← hd, Nat.mod_eq_of_lt h10]
            rfl
          · rw [Lib.decDigits, dif_neg h10, List.append_assoc] at hd
            exact .inr ⟨by omega, hd⟩
        have e1 := rem10n m
        have e2 := quo10n m
        have hm10 : m % 10 < 10 := Nat.mod_lt _ (by decide)
        have hq10 : m / 10 < m := by omega
        have HC := conv_one wr (48 + (m : Int) % 10) (m % 10) (by omega) hm10
        have R := andThenM hbel (upM wr (.cells #[.int .u8 (48 + (m : Int) % 10)] 5))
        clear hc hd
        go_wp2
        go_roundw
        case rel => exact ⟨m / 10, _, by omega, by go_num, rfl, by simpa using HR.out, R⟩
        case measure => simp [intOf]; omega
      · obtain rfl : m = 0 := by omega
        have ht : t = Lib.decDigits u := by
          rcases hc with ⟨_, h1⟩ | ⟨h1, _⟩
          · exact h1
          · omega
        subst ht
        clear hc
        go_wp2
        go_ret
        exact ⟨rfl, hbel⟩
  · rw [nm_out n h]
    by_cases h1 : n < 1
    · clear h
      go_enter Tryd.func10, Tryd.ntmps10
      go_wp2
      go_ret
      exact ⟨rfl, Below.refl _ _⟩
    · have h2 : 1099511627776 < n := by omega
      clear h
      go_enter Tryd.func10, Tryd.ntmps10
      go_wp2
      go_ret
      exact ⟨rfl, Below.refl _ _⟩
theorem texts_ne {a b : ByteArray} (h : a ≠ b) : (a.toList == b.toList) = false := by
  cases hc : a.toList == b.toList with
  | false => rfl
  | true =>
    have h1 := eq_of_beq hc
    rw [ByteArray.toList_eq, ByteArray.toList_eq] at h1
    exact absurd (ByteArray.ext (Array.toList_inj.1 h1)) h
/-- manifest.Num -/
theorem num_any (s : ByteArray) (hs : s.size ≤ 281474976710656) (w : World) (hT : NTab w) : Calls Tryd.prog 31 #[.string s] w fun e w' => e = .returned (.tuple #[.int .i64 (mNum s.data.toList).1, .bool (mNum s.data.toList).2]) ∧ Below w.heap.size w w' := by
  have HTR : Hid (Calls Tryd.prog 40 #[.string s, .string ⟨#[115]⟩] w fun e w' => e = .returned (.string ⟨(Lib.trimPrefix s.data.toList [115]).toArray⟩) ∧ w' = w) := trim_any s ⟨#[115]⟩ w
  have hts : (⟨(Lib.trimPrefix s.data.toList [115]).toArray⟩ : ByteArray).size ≤ 281474976710656 := by
    show (Lib.trimPrefix s.data.toList [115]).toArray.size ≤ _
    have h9 : s.data.toList.length = s.size := by rw [Array.length_toList]; rfl
    unfold Lib.trimPrefix
    split <;> simp <;> omega
  cases hc : Lib.atoiAll (Lib.trimPrefix s.data.toList [115]) with
  | ok v =>
    have HA : Hid (Calls Tryd.prog 39 #[.string ⟨(Lib.trimPrefix s.data.toList [115]).toArray⟩] w fun e w' => e = .returned (.tuple #[.int .i64 v, .nilIface]) ∧ Below w.heap.size w w') := atoi_good _ hts v hc w
    have HN : Hid (∀ w', Below w.heap.size w w' → Calls Tryd.prog 41 #[.int .i64 v] w' fun e w'' => e = .returned (.string ⟨(nmL v).toArray⟩) ∧ Below w'.heap.size w' w'') := fun w' hb => name_any v w' (hT.kept hb)
    have HM : Hid (mNum s.data.toList = if nmL v = s.data.toList then (v, true) else (0, false)) := by
      show _ = _
      unfold mNum
      rw [hc]
    obtain ⟨t, ht⟩ : ∃ t : ByteArray, t = ⟨(nmL v).toArray⟩ := ⟨_, rfl⟩
    rw [← ht] at HN
    by_cases he : nmL v = s.data.toList
    · have es : t = s := by
        rw [ht]
        apply ByteArray.ext
        rw [he]
      rw [HM.out, if_pos he]
      rw [es] at HN
      clear hc hT he es HM hts ht
      generalize (⟨(Lib.trimPrefix s.data.toList [115]).toArray⟩ : ByteArray) = r at *
      go_enter Tryd.func31, Tryd.ntmps31
      go_wp2_with fail
      refine HTR.out.mono ?_
      rintro e w1 ⟨rfl, rfl⟩
      go_wp2_with fail
      refine HA.out.mono ?_
      rintro e w2 ⟨rfl, b2⟩
      go_wp2_with fail
      refine (HN.out _ b2).mono ?_
      rintro e w3 ⟨rfl, b3⟩
      have B3 := andThenM b2 b3
      clear b2 b3 HTR HA HN
      go_wp2
      go_ret2
      exact ⟨rfl, B3⟩
    · have hne := texts_ne (a := t) (b := s) (fun e => he (by rw [← e, ht]))
      rw [HM.out, if_neg he]
      clear hc hT he HM hts ht
      generalize (⟨(Lib.trimPrefix s.data.toList [115]).toArray⟩ : ByteArray) = r at *
      go_enter Tryd.func31, Tryd.ntmps31
      go_wp2_with fail
      refine HTR.out.mono ?_
      rintro e w1 ⟨rfl, rfl⟩
      go_wp2_with fail
      refine HA.out.mono ?_
      rintro e w2 ⟨rfl, b2⟩
      go_wp2_with fail
      refine (HN.out _ b2).mono ?_
      rintro e w3 ⟨rfl, b3⟩
      have B3 := andThenM b2 b3
      clear b2 b3 HTR HA HN
      go_wp2
      go_ret2
      exact ⟨rfl, B3⟩
  | _ =>
    have HA : Hid (Calls Tryd.prog 39 #[.string ⟨(Lib.trimPrefix s.data.toList [115]).toArray⟩] w fun e w' => ∃ z t p, e = .returned (.tuple #[.int .i64 z, .iface t (.pointer p)]) ∧ Below w.heap.size w w') := atoi_bad _ hts (fun v hv => by have h9 := hc.symm.trans hv; cases h9) w hT
    have HM : Hid (mNum s.data.toList = (0, false)) := by
      show _ = _
      unfold mNum
      rw [hc]
    rw [HM.out]
    clear hc hT HM hts
    generalize (⟨(Lib.trimPrefix s.data.toList [115]).toArray⟩ : ByteArray) = r at *
    go_enter Tryd.func31, Tryd.ntmps31
    go_wp2_with fail
    refine HTR.out.mono ?_
    rintro e w1 ⟨rfl, rfl⟩
    go_wp2_with fail
    refine HA.out.mono ?_
    rintro e w2 ⟨z, tt, p, rfl, b2⟩
    go_wp2
    go_ret2
    exact ⟨rfl, b2⟩
set_option maxRecDepth 100000 in
set_option maxHeartbeats 1000000 in
/-- the reference's Num -/
theorem r8num_any (s : ByteArray) (_hs : s.size ≤ 281474976710656) (w : World) : Calls Tryd.prog 5 #[.string s] w fun e w' => e = .returned (.tuple #[.int .i64 (rNum s.data.toList).1, .bool (rNum s.data.toList).2]) ∧ Below w.heap.size w w' := by
  have HL : Hid (s.data.toList.length = s.size) := by show _ = _; rw [Array.length_toList]; rfl
  obtain ⟨l, hl⟩ : ∃ l, l = s.data.toList := ⟨_, rfl⟩
  go_enter Tryd.func5, Tryd.ntmps5
  go_wp2
  go_loopw [4, 5] (fun a b wr => ∃ (n : Int) (i : Nat), 1 ≤ i ∧ i ≤ 20 ∧ (i = 1 ∨ i ≤ s.size) ∧ a = .int .i64 n ∧ b = .int .i64 (i : Int) ∧ 0 ≤ n ∧ n ≤ 1099511627776 ∧ rLoop n ((s.data.toList.drop i).take (20 - i)) = rLoop 0 ((s.data.toList.drop 1).take 19) ∧ wr = w) (fun _ b _ => 20 - (intOf b).toNat)
  case atStart => exact ⟨0, 1, by omega, by omega, .inl rfl, rfl, rfl, by omega, by omega, rfl, rfl⟩
  case round =>
    obtain ⟨n, i, hi1, hi2, his, rfl, rfl, hn0, hn1, hr, rfl⟩ := hrel
    by_cases hlt : i < s.size ∧ i < 20
    · obtain ⟨h1, h2⟩ := hlt
      have HD : Hid ((s.data.toList.drop i).take (20 - i) = s[i]'h1 :: (s.data.toList.drop (i + 1)).take (20 - (i + 1))) := by
        show _ = _
        rw [List.drop_eq_getElem_cons (by have := HL.out; omega), show 20 - i = (20 - (i + 1)) + 1 by omega, List.take_succ_cons]
        congr 1
      have hc256 : (s[i]'h1).toNat < 256 := UInt8.toNat_lt _
      by_cases hbad : n * 10 + ((s[i]'h1).toNat : Int) - 48 < 0 ∨ 1099511627776 < n * 10 + ((s[i]'h1).toNat : Int) - 48
      · have HN : Hid (rNum s.data.toList = (0, false)) := by
          show _ = _
          unfold rNum
          rw [← hr, HD.out, rLoop, if_pos hbad]
        clear hr HD HL hl his
        rcases hbad with hbad | hbad
        · go_wp2
          go_ret2
          exact ⟨by rw [HN.out]; rfl, Below.refl _ _⟩
        · go_wp2
          go_ret2
          exact ⟨by rw [HN.out]; rfl, Below.refl _ _⟩
      · have HR : Hid (rLoop (n * 10 + ((s[i]'h1).toNat : Int) - 48) ((s.data.toList.drop (i + 1)).take (20 - (i + 1))) = rLoop 0 ((s.data.toList.drop 1).take 19)) := by
          show _ = _
          rw [← hr, HD.out, rLoop, if_neg hbad]
        have hb1 : ¬ n * 10 + ((s[i]'h1).toNat : Int) - 48 < 0 := fun h => hbad (.inl h)
        have hb2 : ¬ 1099511627776 < n * 10 + ((s[i]'h1).toNat : Int) - 48 := fun h => hbad (.inr h)
        clear hr HD HL hl his hbad
        go_wp2
        go_roundw
        case rel => exact ⟨_, i + 1, by omega, by omega, .inr (by omega), rfl, by go_num, by omega, by omega, HR.out, trivial⟩
        case measure => simp [intOf]; omega
    · have HE : Hid (rLoop 0 ((s.data.toList.drop 1).take 19) = some n) := by
        show _ = _
        rw [← hr]
        by_cases h1 : i < s.size
        · rw [show 20 - i = 0 by omega]
          rfl
        · rw [List.drop_eq_nil_of_le (by have := HL.out; omega)]
          simp [rLoop]
      have hge : (i : Int) < (s.size : Int) → ¬ (i : Int) < 20 := fun h h' => hlt ⟨by omega, by omega⟩
      clear hr
      by_cases hn : n < 1
      · have HN : Hid (rNum s.data.toList = (0, false)) := by
          show _ = _
          unfold rNum
          rw [HE.out]
          simp [hn]
        clear HE HL hl his hlt
        by_cases h1 : i < s.size
        · have h2 : ¬ (i : Int) < 20 := hge (by omega)
          clear hge
          go_wp2
          go_ret2
          exact ⟨by rw [HN.out]; rfl, Below.refl _ _⟩
        · clear hge
          go_wp2
          go_ret2
          exact ⟨by rw [HN.out]; rfl, Below.refl _ _⟩
      · obtain ⟨t, ht⟩ : ∃ t : ByteArray, t = ⟨(nmL n).toArray⟩ := ⟨_, rfl⟩
        have HC : Hid (Calls Tryd.prog 10 #[.int .i64 n] wr fun e w' => e = .returned (.string t) ∧ Below wr.heap.size wr w') := by
          rw [ht]
          exact r8name_any n wr
        by_cases he : nmL n = s.data.toList
        · have HN : Hid (rNum s.data.toList = (n, true)) := by
            show _ = _
            unfold rNum
            rw [HE.out]
            simp [hn, he]
          have es : t = s := by
            rw [ht]
            apply ByteArray.ext
            rw [he]
          rw [es] at HC
          clear HE HL hl his hlt he es ht
          by_cases h1 : i < s.size
          · have h2 : ¬ (i : Int) < 20 := hge (by omega)
            clear hge
            go_wp2_with fail
            refine HC.out.mono ?_
            rintro e w1 ⟨rfl, b1⟩
            go_wp2
            go_ret2
            exact ⟨by rw [HN.out]; rfl, b1⟩
          · clear hge
            go_wp2_with fail
            refine HC.out.mono ?_
            rintro e w1 ⟨rfl, b1⟩
            go_wp2
            go_ret2
            exact ⟨by rw [HN.out]; rfl, b1⟩
        · have HN : Hid (rNum s.data.toList = (0, false)) := by
            show _ = _
            unfold rNum
            rw [HE.out]
            simp [hn, he]
          have hne := texts_ne (a := t) (b := s) (fun e => he (by rw [← e, ht]))
          clear HE HL hl his hlt he ht
          by_cases h1 : i < s.size
          · have h2 : ¬ (i : Int) < 20 := hge (by omega)
            clear hge
            go_wp2_with fail
            refine HC.out.mono ?_
            rintro e w1 ⟨rfl, b1⟩
            go_wp2
            go_ret2
            exact ⟨by rw [HN.out]; rfl, b1⟩
          · clear hge
            go_wp2_with fail
            refine HC.out.mono ?_
            rintro e w1 ⟨rfl, b1⟩
            go_wp2
            go_ret2
            exact ⟨by rw [HN.out]; rfl, b1⟩
end Go.Proofs.YtppabcihbpbfpaaDoor
