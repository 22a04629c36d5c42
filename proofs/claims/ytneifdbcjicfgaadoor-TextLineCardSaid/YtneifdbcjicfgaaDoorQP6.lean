import Derived.Deep.Strs
import Derived.Test.YtneifdbcjicfgaaDoorQP5
import Derived.Test.YtneifdbcjicfgaaDoorQN
import Derived.Test.YtneifdbcjicfgaaDoorQE
/-
  TextWords: the law.
-/
namespace Go.Proofs.YtneifdbcjicfgaaDoor
open Go Go.RowKit
open Tx

def Tx.aT : ByteArray := ⟨#[97]⟩
theorem nm_a : nmA aT = (0, 0) := by decide +kernel
set_option maxRecDepth 100000 in
theorem wd_a : wdA aT = ([⟨1, 0, aT, 0⟩], 0, 0) := by kernel_rfl
/-- strings in a slice -/
def Ss (w : World) (v : Value) (ls : List ByteArray) : Prop := ∃ ao, ∃ cap : Nat, v = .slice ao ls.length cap ∧ ls.length ≤ cap ∧ cap ≤ maxLen ∧ ∀ (k : Nat) (s : ByteArray), ls[k]? = some s → ∃ b off, ao = some ⟨b, off, none⟩ ∧ w.cell? ⟨b, off + k, none⟩ = some (.string s)
theorem Ss.kept {w w' : World} {v : Value} {ls : List ByteArray} (h : Ss w v ls) (hb : Below w.heap.size w w') : Ss w' v ls := by
  obtain ⟨ao, cap, e, h1, h2, h3⟩ := h
  refine ⟨ao, cap, e, h1, h2, fun k s hs => ?_⟩
  obtain ⟨b, off, e2, h4⟩ := h3 k s hs
  exact ⟨b, off, e2, (hb.cell (p := ⟨b, _, none⟩) (World.block_lt_of_cell? _ _ h4)).trans h4⟩
set_option maxRecDepth 100000 in
theorem first_any (v : Value) (ao : Option Addr) (n cap : Nat) (w : World) (hv : v = .slice ao n cap) :
    Calls Tryd.prog 16 #[v, .int .i64 0, .int .i64 0] w fun e w' => e = .returned v ∧ w' = w := by
  subst hv
  go_enter Tryd.func16, Tryd.ntmps16
  go_wp2
  go_ret
  exact ⟨rfl, rfl⟩
theorem one_word (w : World) (t : TypeId) (w' : World) (hb : Below (w.alloc (.cells #[.int .i64 1, .int .i64 0, .string aT, .int .i64 0] t)).heap.size (w.alloc (.cells #[.int .i64 1, .int .i64 0, .string aT, .int .i64 0] t)) w') : WdsAt w' (.slice (some ⟨w.heap.size, 0, none⟩) 1 1) [⟨1, 0, aT, 0⟩] := by
  refine ⟨_, 1, rfl, Nat.le_refl _, by unfold maxLen; omega, fun k s hs => ⟨w.heap.size, 0, rfl, ?_⟩⟩
  have hk := (List.getElem?_eq_some_iff.1 hs).1
  obtain rfl : k = 0 := by simpa using hk
  obtain rfl : (⟨1, 0, aT, 0⟩ : Wd) = s := by simpa using hs
  have hc : ∀ j u, (#[.int .i64 1, .int .i64 0, .string aT, .int .i64 0] : Array Value)[j]? = some u → w'.cell? ⟨w.heap.size, j, none⟩ = some u := fun j u hj => by
    rw [hb.cell (p := ⟨w.heap.size, j, none⟩) (by rw [heapW]; exact Nat.lt_succ_self _), World.cell?_alloc_new]
    exact hj
  exact ⟨hc 0 _ rfl, hc 1 _ rfl, hc 2 _ rfl, hc 3 _ rfl⟩
set_option maxRecDepth 100000 in
set_option maxHeartbeats 8000000 in
theorem textWords_any (v : Value) (ls : List ByteArray) (w : World) (hT : KTab w) (hs : Ss w v ls) :
    Calls Tryd.prog 5 #[v] w fun e w' => e = .returned (.bool true) ∧ Below w.heap.size w w' := by
  have HNM : Hid (Calls Tryd.prog 15 #[.string ⟨#[97]⟩] w fun e w' => e = .returned (.tuple #[.int .i64 0, .int .i64 0]) ∧ Below w.heap.size w w') := by
    have h9 := name_any aT w (by decide) hT.wt.lets
    rw [nm_a] at h9
    exact h9
  have HW1 : Hid (∀ w', Below w.heap.size w w' → Calls Tryd.prog 9 #[.string ⟨#[97]⟩] w' fun e w'' => ∃ v, e = .returned (.tuple #[v, .int .i64 0, .int .i64 0]) ∧ WdR w'.heap.size w'' v [⟨1, 0, aT, 0⟩] ∧ Below w'.heap.size w' w'') := fun w' hb => by
    have h9 := words_any aT w' (hT.kept hb).wt
    rw [wd_a] at h9
    exact h9
  have HPW : Hid (∀ s w', Below w.heap.size w w' → Calls Tryd.prog 9 #[.string s] w' fun e w'' => ∃ v, e = .returned (.tuple #[v, .int .i64 (wdA s).2.1, .int .i64 (wdA s).2.2]) ∧ WdR w'.heap.size w'' v (wdA s).1 ∧ Below w'.heap.size w' w'') := fun s w' hb => words_any s w' (hT.kept hb).wt
  have HRW : Hid (∀ s w', Below w.heap.size w w' → Calls Tryd.prog 12 #[.string s] w' fun e w'' => ∃ v, e = .returned (.tuple #[v, .int .i64 (wdA s).2.1, .int .i64 (wdA s).2.2]) ∧ WdR w'.heap.size w'' v (wdA s).1 ∧ Below w'.heap.size w' w'') := fun s w' hb => rwords_any s w' (hT.kept hb).rl (hT.kept hb).rh
  have HCT : Hid (∀ s w', Calls Tryd.prog 11 #[.string s] w' fun e w'' => e = .returned (.string (cutT s)) ∧ w'' = w') := fun s w' => cut_any s w'
  obtain ⟨ao, cap, rfl, hc1, hc2, hcl⟩ := hs
  unfold maxLen at hc2
  have HCL : Hid (∀ w', Below w.heap.size w w' → ∀ (k : Nat) (s : ByteArray), ls[k]? = some s → ∃ b off, ao = some ⟨b, off, none⟩ ∧ w'.cell? ⟨b, off + k, none⟩ = some (.string s)) := fun w' hb k s hk => by
    obtain ⟨b, off, e2, h4⟩ := hcl k s hk
    exact ⟨b, off, e2, (hb.cell (p := ⟨b, _, none⟩) (World.block_lt_of_cell? _ _ h4)).trans h4⟩
  clear hT hcl
  go_enter Tryd.func5, Tryd.ntmps5
  go_wp2_with fail
  refine HNM.out.mono ?_
  rintro e w1 ⟨rfl, B1⟩
  clear HNM
  go_wp2_with fail
  refine (HW1.out _ B1).mono ?_
  rintro e w2 ⟨v2, rfl, hr2, b2⟩
  have B2 := andThen B1 b2
  obtain ⟨a2, c2, e2⟩ := hr2.shape
  clear HW1 B1 b2
  have HF : Hid (Calls Tryd.prog 16 #[v2, .int .i64 0, .int .i64 0] w2 fun e w' => e = .returned v2 ∧ w' = w2) := first_any v2 a2 1 c2 w2 e2
  subst e2
  have HS : Hid (∀ t, Calls Tryd.prog 10 #[.slice a2 1 c2, .slice (some ⟨w2.heap.size, 0, none⟩) 1 1] (w2.alloc (.cells #[.int .i64 1, .int .i64 0, .string ⟨#[97]⟩, .int .i64 0] t)) fun e w' => e = .returned (.bool true) ∧ Below (w2.alloc (.cells #[.int .i64 1, .int .i64 0, .string ⟨#[97]⟩, .int .i64 0] t)).heap.size (w2.alloc (.cells #[.int .i64 1, .int .i64 0, .string ⟨#[97]⟩, .int .i64 0] t)) w') := fun t => sameWords_yes [⟨1, 0, aT, 0⟩] _ _ _ (fun w' hb => (hr2.kept (andThen (up0 _ _) hb)).at) (fun w' hb => one_word w2 t w' hb)
  have HB2 : Hid (∀ t w', Below (w2.alloc (.cells #[.int .i64 1, .int .i64 0, .string ⟨#[97]⟩, .int .i64 0] t)).heap.size (w2.alloc (.cells #[.int .i64 1, .int .i64 0, .string ⟨#[97]⟩, .int .i64 0] t)) w' → Below w.heap.size w w') := fun t w' hb => andThen (up B2 _) hb
  clear hr2 B2
  go_wp2_with fail
  refine HF.out.mono ?_
  rintro e w3 ⟨rfl, hw3⟩
  have hw4 := hw3.symm
  subst hw4
  clear HF hw3
  go_wp2_with fail
  refine (HS.out _).mono ?_
  rintro e w5 ⟨rfl, b5⟩
  have B5 : Below w.heap.size w w5 := HB2.out _ _ b5
  clear HS HB2 b5
  go_upto_region 5 with fail
  obtain ⟨WA, hWA⟩ : ∃ WA, WA = w5.alloc (.cells #[.slice none 0 0, .slice none 0 0] 50) := ⟨_, rfl⟩
  have HK0 : Hid (Bk w.heap.size WA w5.heap.size (.slice none 0 0) (.slice none 0 0) [] ∧ Below w.heap.size w WA) := by
    refine ⟨⟨B5.size, ?_, World.ownsRow_nil _ _ _ _, World.ownsRow_nil _ _ _ _, fun x hx => by cases hx⟩, ?_⟩
    · rw [hWA]
      show (w5.heap.push _)[w5.heap.size]? = _
      rw [Array.getElem?_push_size]
    · rw [hWA]
      exact up B5 _
  rw [← hWA]
  obtain ⟨gb, hgb⟩ : ∃ gb, gb = w5.heap.size := ⟨_, rfl⟩
  rw [← hgb] at HK0 ⊢
  clear hWA hgb B5
  go_wp2
  go_loopw [6, 7] (fun n i wr => ∃ (k cnt : Nat) (L : List (Value × Nat × Nat)) (vl vm : Value), k ≤ 40 ∧ k ≤ ls.length ∧ i = .int .i64 (k : Int) ∧ n = .int .i64 (cnt : Int) ∧ cnt ≤ 200000 ∧ L.length = 4 * k ∧ (∀ x ∈ L, x.2.2 ≤ 1000000) ∧ Bk w.heap.size wr gb vl vm L ∧ Below w.heap.size w wr) (fun _ i _ => 40 - (intOf i).toNat)
  case atStart => exact ⟨0, 0, [], _, _, Nat.zero_le _, Nat.zero_le _, rfl, rfl, Nat.zero_le _, rfl, (fun x hx => by cases hx), HK0.out.1, HK0.out.2⟩
  case round =>
    obtain ⟨k, cnt, L, vl, vm, hk40, hkl, rfl, rfl, hcnt, hLL, hLB, hbk, hbel⟩ := hrel
    clear HK0
    have HBK : Hid (Bk w.heap.size wr gb vl vm L ∧ (∀ x ∈ L, x.2.2 ≤ 1000000)) := ⟨hbk, hLB⟩
    have HLL : Hid (L.length = 4 * k) := hLL
    clear hbk hLB hLL
    by_cases h1 : k < ls.length
    · by_cases h2 : k < 40
      · by_cases h3 : cnt < 40000
        · obtain ⟨s, hsk⟩ : ∃ s, ls[k]? = some s := ⟨ls[k], List.getElem?_eq_getElem h1⟩
          obtain ⟨bb, off, rfl, x0⟩ := HCL.out _ hbel k s hsk
          clear hsk
          have hlen := wdA_len (cutT s)
          have HCU : Hid (∀ w', Calls Tryd.prog 11 #[.string s] w' fun e w'' => e = .returned (.string (cutT s)) ∧ w'' = w') := HCT.out s
          have HP2 : Hid (∀ w', Below w.heap.size w w' → Calls Tryd.prog 9 #[.string (cutT s)] w' fun e w'' => ∃ v, e = .returned (.tuple #[v, .int .i64 (wdA (cutT s)).2.1, .int .i64 (wdA (cutT s)).2.2]) ∧ WdR w'.heap.size w'' v (wdA (cutT s)).1 ∧ Below w'.heap.size w' w'') := HPW.out (cutT s)
          have HR2 : Hid (∀ w', Below w.heap.size w w' → Calls Tryd.prog 12 #[.string (cutT s)] w' fun e w'' => ∃ v, e = .returned (.tuple #[v, .int .i64 (wdA (cutT s)).2.1, .int .i64 (wdA (cutT s)).2.2]) ∧ WdR w'.heap.size w'' v (wdA (cutT s)).1 ∧ Below w'.heap.size w' w'') := HRW.out (cutT s)
          generalize cutT s = S at *
          generalize wdA S = A at *
          obtain ⟨l, er, pl⟩ := A
          simp only at HP2 HR2 hlen
          clear HCT HPW HRW HCL
          have HC3 : Hid (cnt < 40000 ∧ l.length ≤ 65536) := ⟨h3, hlen⟩
          have d3 : ((cnt : Int) < 40000) = True := eq_true (by omega)
          clear h3 hcnt hlen
          go_wp2_with fail
          refine (HCU.out _).mono ?_
          rintro e w6 ⟨rfl, hw6⟩
          have hw7 := hw6.symm
          subst hw7
          clear HCU hw6 x0
          go_wp2_with fail
          refine (HP2.out _ hbel).mono ?_
          rintro e w7 ⟨v9, rfl, hr9, b7⟩
          obtain ⟨a9, c9, e9⟩ := hr9.shape
          subst e9
          have B7 := andThen hbel b7
          go_wp2_with fail
          refine (HR2.out _ B7).mono ?_
          rintro e w8 ⟨v12, rfl, hr12, b8⟩
          obtain ⟨a12, c12, e12⟩ := hr12.shape
          subst e12
          have B8 := andThen B7 b8
          clear HP2 HR2
          have HSY : Hid (Calls Tryd.prog 10 #[.slice a9 l.length c9, .slice a12 l.length c12] w8 fun e w'' => e = .returned (.bool true) ∧ Below w8.heap.size w8 w'') := sameWords_yes l _ _ w8 (fun w' hb => (hr9.kept (andThen b8 hb)).at) (fun w' hb => (hr12.kept hb).at)
          have H8 : Hid (∀ w', Below w8.heap.size w8 w' → Bk w.heap.size w' gb vl vm L ∧ WdR w.heap.size w' (.slice a9 l.length c9) l ∧ (∀ x ∈ L, ∀ g, x.1.ownBlock = some g → (Value.slice a9 l.length c9).ownBlock ≠ some g) ∧ Below w.heap.size w w') := fun w' hb => by
            refine ⟨HBK.out.1.kept (andThen (andThen b7 b8) hb), (hr9.kept (andThen b8 hb)).weak hbel.size, fun x hx g hg e => ?_, andThen B8 hb⟩
            have h1 := (World.ownsRow.lt (HBK.out.1.ls x hx) g hg).2
            have h2 := (World.ownsRow.lt hr9 g e).1
            omega
          clear hr9 hr12 b7 b8 B7 B8 hbel
          go_wp2_with fail
          refine HSY.out.mono ?_
          rintro e w9 ⟨rfl, b9⟩
          clear HSY
          have HTK : Hid (Calls Tryd.prog 17 #[.pointer (some ⟨gb, 0, none⟩), .slice a9 l.length c9] w9 fun e w' => e = .returned (.tuple #[]) ∧ (∃ vl' vm' L', Bk w.heap.size w' gb vl' vm' L' ∧ L'.length = 4 * (k + 1) ∧ ∀ x ∈ L', x.2.2 ≤ 1000000) ∧ Below w.heap.size w w') := by
            obtain ⟨h1, h2, h3, h4⟩ := H8.out _ b9
            have hLL := HLL.out
            have hc3 := HC3.out
            refine (take_any _ gb vl vm L _ l w9 h1 h2 h3 h4.size (by omega) (by omega)).mono fun e w' ⟨he, ⟨vl', vm', g1, g2, g3, hb'⟩, hbl⟩ => ⟨he, ⟨vl', vm', _, hb', by simp; omega, fun x hx => ?_⟩, h4.trans hbl⟩
            rcases List.mem_append.1 hx with hx | hx
            · exact HBK.out.2 x hx
            · simp only [List.mem_cons, List.not_mem_nil, or_false] at hx
              rcases hx with rfl | rfl | rfl | rfl <;> (show L.length + 1 ≤ 1000000; omega)
          clear H8 HBK b9
          go_wp2_with fail
          refine HTK.out.mono ?_
          rintro e w10 ⟨rfl, ⟨vl1, vm1, L1, hb1, hL1, hx1⟩, B10⟩
          have HWH : Hid (Calls Tryd.prog 18 #[.pointer (some ⟨gb, 0, none⟩)] w10 fun e w' => e = .returned (.bool true) ∧ w' = w10) := whole_any _ gb vl1 vm1 L1 w10 hb1 hx1
          have HN : Hid (L1.length = 4 * (k + 1) ∧ (∀ x ∈ L1, x.2.2 ≤ 1000000) ∧ Bk w.heap.size w10 gb vl1 vm1 L1 ∧ Below w.heap.size w w10) := ⟨hL1, hx1, hb1, B10⟩
          clear HTK hb1 hL1 hx1 B10
          go_wp2_with fail
          refine HWH.out.mono ?_
          rintro e w11 ⟨rfl, hw11⟩
          have hw12 := hw11.symm
          subst hw12
          clear HWH hw11
          clear d3
          have hc3 : (cnt : Int) + l.length ≤ 105536 := by have := HC3.out; omega
          go_wp2
          go_roundw
          case rel =>
            have hc4 := HC3.out
            exact ⟨k + 1, cnt + l.length, L1, vl1, vm1, by omega, by omega, by go_num, (by rw [IntWalk.wrap64_in _ (by omega)]; rfl), by omega, HN.out.1, HN.out.2.1, HN.out.2.2.1, HN.out.2.2.2⟩
          case measure => simp [intOf]; omega
        · have d3 : ((cnt : Int) < 40000) = False := eq_false (by omega)
          clear h3 hcnt
          go_wp2
          go_ret
          exact ⟨rfl, hbel⟩
      · go_wp2
        go_ret
        exact ⟨rfl, hbel⟩
    · go_wp2
      go_ret
      exact ⟨rfl, hbel⟩
end Go.Proofs.YtneifdbcjicfgaaDoor

/-
  TextWords: the argument.
-/
namespace Go.Proofs.YtneifdbcjicfgaaDoor
open Go.ChangeShapes Go.WideShapes Go.ChangeAt Go.RowKit
open Tx

theorem cellsTSTR : Tryd.prog.cellsOf 9 = 1 := by kernel_rfl
set_option maxRecDepth 100000 in
theorem open_ss {H : Type} {enc : TypeId × Value → H} {W : World} {base : Nat} {v : Value} {d : DataW H} {p : List MemPlace} (hv : Value.okWide Tryd.prog W .any base 43 v)
    (h : DataW.Trod enc Tryd.prog W 0 (fun _ => true) true 43 v d p) : ∃ ls, Ss W v ls := by
  obtain ⟨a0, len0, cap0, rfl⟩ := okWide_slice Tryd.underlying43 hv
  obtain ⟨fuel, hf⟩ := h
  rcases Deep.open_strs Tryd.underlying43 Tryd.underlying9 cellsTSTR hf with ⟨hcs, _⟩ | ⟨a, len, cap, m, Sx, hcs, _, hl, hm, hmm, hx, hcell⟩
  · simp [Value.cells] at hcs
    obtain ⟨rfl, rfl, rfl⟩ := hcs
    exact ⟨[], none, 0, rfl, Nat.le_refl _, Nat.zero_le _, fun k s hs => by simp at hs⟩
  · simp [Value.cells] at hcs
    obtain ⟨rfl, rfl, rfl⟩ := hcs
    simp only [if_true] at hmm
    subst hmm
    refine ⟨(List.range len0).map Sx, some a, m, by simp, by simpa using hl, hm, fun k s hs => ?_⟩
    have hk : k < len0 := by
      have := (List.getElem?_eq_some_iff.1 hs).1
      simpa using this
    rw [List.getElem?_map, List.getElem?_range hk] at hs
    obtain rfl := Option.some.inj hs
    obtain ⟨b, off, spot⟩ := a
    have hspot : spot = none := by simpa [Addr.add] using World.cell?_spot (hcell 0 (by omega)).1
    subst hspot
    exact ⟨b, off, rfl, by rw [← Go.WideShapes.add_plain]; exact (hcell k (by omega)).1⟩
theorem trod_lt {H : Type} {enc : TypeId × Value → H} {W : World} {t : TypeId} {v : Value} {d : DataW H} {p : List MemPlace} (h : DataW.Trod enc Tryd.prog W 0 (fun _ => true) true t v d p) : ∀ x ∈ p, x.block < W.heap.size := by
  obtain ⟨m, hm⟩ := h
  exact DataW.trod_lt m _ _ _ hm
end Go.Proofs.YtneifdbcjicfgaaDoor
