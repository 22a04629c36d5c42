import Derived.ChangeSlices
import Derived.OpenShut
import Derived.Test.YtneifdbcjicfgaaDoorQS7
import Derived.Test.YtneifdbcjicfgaaDoorQS9
import Derived.Test.YtneifdbcjicfgaaDoorQP6
/-
  TextLine: the law.
-/
namespace Go.Proofs.YtneifdbcjicfgaaDoor
open Go Go.RowKit
open Tx

theorem part_any (k : Int) (pk : Value) (zs : List Int) (nm : Int) (tx : ByteArray) (gp a : Int) (w : World) (hT : WTab w) (hp : Is w pk zs) (hn : -9223372036854775808 ≤ nm ∧ nm ≤ 9223372036854775807) :
    Calls Tryd.prog 8 #[.agg #[.int .i64 k, pk, .int .i64 nm, .string tx, .int .i64 gp], .int .i64 a] w fun e w' => WrA k a e ∧ Below w.heap.size w w' := by
  by_cases hk : 1 ≤ k ∧ k ≤ 4
  · rcases (show k = 1 ∨ k = 2 ∨ k = 3 ∨ k = 4 by omega) with rfl | rfl | rfl | rfl
    · exact written_name pk zs nm tx gp a w hT hp hn
    · exact written_num pk zs nm tx gp a w hT hp hn
    · exact written_lit pk zs nm tx gp a w hT hp hn
    · exact written_sign pk zs nm tx gp a w hT hp hn
  · exact written_other k pk zs nm tx gp a w hT hp hn hk
/-- a part -/
structure Prt where
  k : Int
  pk : Value
  zs : List Int
  nm : Int
  tx : ByteArray
  gp : Int
/-- parts in a slice -/
def Pts (w : World) (v : Value) (ps : List Prt) : Prop := ∃ ao, ∃ cap : Nat, v = .slice ao ps.length cap ∧ ps.length ≤ cap ∧ cap ≤ maxLen ∧ ∀ (i : Nat) (p : Prt), ps[i]? = some p → (-9223372036854775808 ≤ p.nm ∧ p.nm ≤ 9223372036854775807) ∧ Is w p.pk p.zs ∧ ∃ b off, ao = some ⟨b, off, none⟩ ∧ w.cell? ⟨b, off + i * 5, none⟩ = some (.int .i64 p.k) ∧ w.cell? ⟨b, off + i * 5 + 1, none⟩ = some p.pk ∧ w.cell? ⟨b, off + i * 5 + 2, none⟩ = some (.int .i64 p.nm) ∧ w.cell? ⟨b, off + i * 5 + 3, none⟩ = some (.string p.tx) ∧ w.cell? ⟨b, off + i * 5 + 4, none⟩ = some (.int .i64 p.gp)
theorem app_none (a : ByteArray) : a ++ (⟨#[]⟩ : ByteArray) = a := by
  apply toList_inj
  rw [ByteArray.toList_eq, ByteArray.toList_eq]
  simp
set_option maxRecDepth 100000 in
theorem okw_a : Okw aT 1 aT 0 := by
  have h := okw_name (nm_one 97 (by decide) (by decide +kernel))
  have e : Utf8.encode ((97 : Nat) : Int) = aT := ba_eq (by decide +kernel)
  rw [e] at h
  exact h
theorem wdr_new (w : World) (d : Wd) : WdR w.heap.size (w.alloc (.cells #[.int .i64 d.k, .int .i64 d.at_, .string d.t, .int .i64 d.n] 24)) (.slice (some ⟨w.heap.size, 0, none⟩) 1 1) [d] := by
  refine ⟨rfl, .inr ⟨w.heap.size, 1, _, rfl, Nat.le_refl _, Array.getElem?_push_size, Nat.le_refl _, by unfold maxLen; omega, rfl, rfl⟩⟩
theorem new_word (w : World) (t : TypeId) (d : Wd) (j : Nat) (u : Value) (hj : (wdc d)[j]? = some u) : (w.alloc (.cells #[.int .i64 d.k, .int .i64 d.at_, .string d.t, .int .i64 d.n] t)).cell? ⟨w.heap.size, j, none⟩ = some u := by
  rw [World.cell?_alloc_new]
  simpa [wdc] using hj
theorem line_end {L c : ByteArray} {W : List Wd} (h : Lin L W) (hL : L.size ≤ 60000) (hc : c.size ≤ 4000) : wdA (L ++ ⟨#[35]⟩ ++ c) = (W, 0, 0) := by
  unfold wdA
  have hsz : (L ++ ⟨#[35]⟩ ++ c).size = L.size + 1 + c.size := by
    rw [ByteArray.size_append, ByteArray.size_append]
    rfl
  rw [if_neg (by omega), lin_end h]
set_option maxRecDepth 100000 in
set_option maxHeartbeats 8000000 in
theorem line_any (v : Value) (ps : List Prt) (cm : ByteArray) (w : World) (hT : WTab w) (hp : Pts w v ps) :
    Calls Tryd.prog 3 #[v, .string cm] w fun e w' => e = .returned (.bool true) ∧ Below w.heap.size w w' := by
  have HPW : Hid (∀ s w', Below w.heap.size w w' → Calls Tryd.prog 9 #[.string s] w' fun e w'' => ∃ v, e = .returned (.tuple #[v, .int .i64 (wdA s).2.1, .int .i64 (wdA s).2.2]) ∧ WdR w'.heap.size w'' v (wdA s).1 ∧ Below w'.heap.size w' w'') := fun s w' hb => words_any s w' (hT.kept hb)
  have HWR : Hid (∀ (p : Prt) (a : Int) w', Is w p.pk p.zs → (-9223372036854775808 ≤ p.nm ∧ p.nm ≤ 9223372036854775807) → Below w.heap.size w w' → Calls Tryd.prog 8 #[.agg #[.int .i64 p.k, p.pk, .int .i64 p.nm, .string p.tx, .int .i64 p.gp], .int .i64 a] w' fun e w'' => WrA p.k a e ∧ Below w'.heap.size w' w'') := fun p a w' hi hn hb => part_any p.k p.pk p.zs p.nm p.tx p.gp a w' (hT.kept hb) (hi.kept hb) hn
  obtain ⟨ao, cap, rfl, hc1, hc2, hcl⟩ := hp
  unfold maxLen at hc2
  have HCL : Hid (∀ w', Below w.heap.size w w' → ∀ (i : Nat) (p : Prt), ps[i]? = some p → (-9223372036854775808 ≤ p.nm ∧ p.nm ≤ 9223372036854775807) ∧ Is w p.pk p.zs ∧ ∃ b off, ao = some ⟨b, off, none⟩ ∧ w'.cell? ⟨b, off + i * 5, none⟩ = some (.int .i64 p.k) ∧ w'.cell? ⟨b, off + i * 5 + 1, none⟩ = some p.pk ∧ w'.cell? ⟨b, off + i * 5 + 2, none⟩ = some (.int .i64 p.nm) ∧ w'.cell? ⟨b, off + i * 5 + 3, none⟩ = some (.string p.tx) ∧ w'.cell? ⟨b, off + i * 5 + 4, none⟩ = some (.int .i64 p.gp)) := fun w' hb i p hi => by
    obtain ⟨h0, h1, b, off, e, c0, c1, c2, c3, c4⟩ := hcl i p hi
    have hk : ∀ j u, w.cell? ⟨b, j, none⟩ = some u → w'.cell? ⟨b, j, none⟩ = some u := fun j u hu => (hb.cell (p := ⟨b, j, none⟩) (World.block_lt_of_cell? _ _ hu)).trans hu
    exact ⟨h0, h1, b, off, e, hk _ _ c0, hk _ _ c1, hk _ _ c2, hk _ _ c3, hk _ _ c4⟩
  have hin := infoWd
  clear hT hcl
  go_enter Tryd.func3, Tryd.ntmps3
  go_upto_region 3 with fail
  have HR0 : Hid (WdR w.heap.size (w.alloc (.cells #[.int .i64 1, .int .i64 0, .string ⟨#[97]⟩, .int .i64 0] 24)) (.slice (some ⟨w.heap.size, 0, none⟩) 1 1) [⟨1, 0, aT, 0⟩] ∧ Below w.heap.size w (w.alloc (.cells #[.int .i64 1, .int .i64 0, .string ⟨#[97]⟩, .int .i64 0] 24))) := ⟨wdr_new w ⟨1, 0, aT, 0⟩, up0 _ _⟩
  generalize w.alloc (.cells #[.int .i64 1, .int .i64 0, .string ⟨#[97]⟩, .int .i64 0] 24) = WA at HR0 ⊢
  generalize (Value.slice (some ⟨w.heap.size, 0, none⟩) 1 1) = vw at HR0 ⊢
  go_wp2
  go_loopw [5, 6, 7] (fun li wa i wr => ∃ (k : Nat) (L : ByteArray) (W : List Wd), k ≤ 40 ∧ k ≤ ps.length ∧ i = .int .i64 (k : Int) ∧ li = .string L ∧ L.size ≤ 60000 ∧ Lin L W ∧ W.length ≤ k + 1 ∧ WdR w.heap.size wr wa W ∧ Below w.heap.size w wr) (fun _ _ i _ => 40 - (intOf i).toNat)
  case atStart => exact ⟨0, aT, _, Nat.zero_le _, Nat.zero_le _, rfl, rfl, by decide, lin_first okw_a, Nat.le_refl _, HR0.out.1, HR0.out.2⟩
  case round =>
    obtain ⟨k, L, W, hk40, hkl, rfl, rfl, hL6, hlin, hWl, hwd, hbel⟩ := hrel
    clear HR0
    have HLN : Hid (Lin L W) := hlin
    have HWL : Hid (W.length ≤ k + 1) := hWl
    have HWD : Hid (WdR w.heap.size wr u6 W) := hwd
    clear hlin hWl hwd
    by_cases h1 : k < ps.length
    · by_cases h2 : k < 40
      · obtain ⟨p, hpk⟩ : ∃ p, ps[k]? = some p := ⟨ps[k], List.getElem?_eq_getElem h1⟩
        obtain ⟨hnm, hpi, b, off, rfl, c0, c1, c2, c3, c4⟩ := HCL.out _ hbel k p hpk
        obtain ⟨pk, pp, zs, pn, ptx, pg⟩ := p
        simp only at hnm hpi c0 c1 c2 c3 c4
        obtain ⟨ap, cp, rfl, -, -, -⟩ := id hpi
        have HGP : Hid (∀ w', Calls Tryd.prog 7 #[.int .i64 pg] w' fun e w'' => ∃ b, e = .returned (.string b) ∧ Gap b ∧ b.size ≤ 3 ∧ w'' = w') := fun w' => gap_any pg w'
        have HPA : Hid (∀ (a : Int) w', Below w.heap.size w w' → Calls Tryd.prog 8 #[.agg #[.int .i64 pk, .slice ap zs.length cp, .int .i64 pn, .string ptx, .int .i64 pg], .int .i64 a] w' fun e w'' => WrA pk a e ∧ Below w'.heap.size w' w'') := fun a w' hb => HWR.out ⟨pk, .slice ap zs.length cp, zs, pn, ptx, pg⟩ a w' hpi hnm hb
        clear HWR HCL HPW hpk hpi hnm
        go_wp2_with fail
        refine (HGP.out _).mono ?_
        rintro e w1 ⟨g, rfl, hgap, hgz, hw1⟩
        have hw2 := hw1.symm
        subst hw2
        have HGA : Hid (Gap g) := hgap
        clear HGP hw1 hgap
        go_upto_region 8 with fail
        have hsz1 : (L ++ g).size ≤ 60003 := by rw [ByteArray.size_append]; omega
        have HLG : Hid (∀ (t : ByteArray) (k n : Int) (tx : ByteArray), Okw t k tx n → Lin (L ++ g ++ t) (W ++ [⟨k, ((L ++ g).size : Int), tx, n⟩])) := fun t k n tx ht => lin_word HLN.out HGA.out ht
        have HLE : Hid (Lin (L ++ g ++ ⟨#[]⟩) W) := by
          show Lin _ _
          rw [app_none]
          exact lin_none HLN.out HGA.out
        generalize L ++ g = LG at *
        clear HLN HGA hgz
        go_wp2_with fail
        refine (HPA.out _ _ hbel).mono ?_
        rintro e w2 ⟨⟨t, tx, n, rfl, hok, hno, htz⟩, b2⟩
        have HOK : Hid (((1 ≤ pk ∧ pk ≤ 4) → Okw t pk tx n) ∧ (¬ (1 ≤ pk ∧ pk ≤ 4) → t = ⟨#[]⟩)) := ⟨hok, hno⟩
        have HW2 : Hid (WdR w.heap.size w2 u6 W ∧ Below w.heap.size w w2) := ⟨HWD.out.kept b2, andThen hbel b2⟩
        clear HPA HWD hbel b2 hok hno c0 c1 c2 c3 c4
        go_upto_region 9 with fail
        obtain ⟨WC, hWC⟩ : ∃ WC, WC = w2.alloc (.cells #[.int .i64 pk, .int .i64 (LG.size : Int), .string tx, .int .i64 n] 24) := ⟨_, rfl⟩
        have HX : Hid (Wx WC w2.heap.size ⟨pk, (LG.size : Int), tx, n⟩ ∧ WdR w.heap.size WC u6 W ∧ Below w.heap.size w WC) := by
          rw [hWC]
          exact ⟨wx_new w2 ⟨pk, (LG.size : Int), tx, n⟩ 24, HW2.out.1.kept (up0 _ _), up HW2.out.2 _⟩
        rw [← hWC]
        generalize w2.heap.size = gw at HX ⊢
        clear hWC HW2
        obtain ⟨x0, x1, x2, x3⟩ := HX.out.1.cells
        simp only at x0 x1 x2 x3
        by_cases hk4 : 1 ≤ pk ∧ pk ≤ 4
        · have HLI : Hid (Lin (LG ++ t) (W ++ [⟨pk, (LG.size : Int), tx, n⟩])) := HLG.out t pk n tx (HOK.out.1 hk4)
          have hk5 := hk4.1
          have hk6 := hk4.2
          have hW9 := HWL.out
          clear hk4 HLG HLE HOK
          have hsz2 : (LG ++ t).size ≤ 2060003 := by rw [ByteArray.size_append]; omega
          have HZA : Hid (∀ o, WdR w.heap.size (WC.alloc o) u6 W ∧ Below w.heap.size w (WC.alloc o) ∧ w.heap.size ≤ (WC.alloc o).heap.size) := fun o => ⟨HX.out.2.1.kept (up0 _ _), up HX.out.2.2 o, (up HX.out.2.2 o).size⟩
          clear HX
          go_wp2_with (at_builtin; refine wpList_append_wd _ rfl (.tmp 51) (.tmp 53) 25 rfl w.heap.size hin Tryd.underlying25 _ W ⟨pk, (LG.size : Int), tx, n⟩ rfl (HZA.out _).1 _ rfl (fun j u hj => new_word WC _ ⟨pk, (LG.size : Int), tx, n⟩ j u hj) (by omega) (HZA.out _).2.2 ?_)
          intro v7 w7 hr7 b7 _
          have HZ : Hid (WdR w.heap.size w7 v7 (W ++ [⟨pk, (LG.size : Int), tx, n⟩]) ∧ Below w.heap.size w w7) := ⟨hr7, (HZA.out _).2.1.trans b7⟩
          clear hr7 b7 HZA x0 x1 x2 x3
          by_cases h6 : 60000 < LG.size + t.size
          · have d6 : ((60000 : Int) < (LG.size : Int) + (t.size : Int)) = True := eq_true (by omega)
            clear h6
            go_wp2
            go_ret
            exact ⟨rfl, HZ.out.2⟩
          · have d6 : ((60000 : Int) < (LG.size : Int) + (t.size : Int)) = False := eq_false (by omega)
            have HS6 : Hid ((LG ++ t).size ≤ 60000) := by
              show _ ≤ _
              rw [ByteArray.size_append]
              omega
            clear h6
            go_wp2
            go_roundw
            case rel => exact ⟨k + 1, LG ++ t, _, by omega, by omega, by go_num, rfl, HS6.out, HLI.out, by rw [List.length_append]; exact Nat.succ_le_succ HWL.out, HZ.out.1, HZ.out.2⟩
            case measure => simp [intOf]; omega
        · have HLI : Hid (Lin (LG ++ t) W) := by
            show Lin _ _
            rw [HOK.out.2 hk4]
            exact HLE.out
          have HZ : Hid (WdR w.heap.size WC u6 W ∧ Below w.heap.size w WC) := HX.out.2
          clear HLG HLE HOK HX
          have hsz2 : (LG ++ t).size ≤ 2060003 := by rw [ByteArray.size_append]; omega
          by_cases hk5 : 1 ≤ pk
          · have hk6 : ¬ pk ≤ 4 := fun h => hk4 ⟨hk5, h⟩
            clear hk4
            by_cases h6 : 60000 < LG.size + t.size
            · have d6 : ((60000 : Int) < (LG.size : Int) + (t.size : Int)) = True := eq_true (by omega)
              clear h6
              go_wp2
              go_ret
              exact ⟨rfl, HZ.out.2⟩
            · have d6 : ((60000 : Int) < (LG.size : Int) + (t.size : Int)) = False := eq_false (by omega)
              have HS6 : Hid ((LG ++ t).size ≤ 60000) := by
                show _ ≤ _
                rw [ByteArray.size_append]
                omega
              clear h6
              go_wp2
              go_roundw
              case rel => exact ⟨k + 1, LG ++ t, _, by omega, by omega, by go_num, rfl, HS6.out, HLI.out, Nat.le_succ_of_le HWL.out, HZ.out.1, HZ.out.2⟩
              case measure => simp [intOf]; omega
          · clear hk4
            by_cases h6 : 60000 < LG.size + t.size
            · have d6 : ((60000 : Int) < (LG.size : Int) + (t.size : Int)) = True := eq_true (by omega)
              clear h6
              go_wp2
              go_ret
              exact ⟨rfl, HZ.out.2⟩
            · have d6 : ((60000 : Int) < (LG.size : Int) + (t.size : Int)) = False := eq_false (by omega)
              have HS6 : Hid ((LG ++ t).size ≤ 60000) := by
                show _ ≤ _
                rw [ByteArray.size_append]
                omega
              clear h6
              go_wp2
              go_roundw
              case rel => exact ⟨k + 1, LG ++ t, _, by omega, by omega, by go_num, rfl, HS6.out, HLI.out, Nat.le_succ_of_le HWL.out, HZ.out.1, HZ.out.2⟩
              case measure => simp [intOf]; omega
      · have HE9 : Hid (∀ c : ByteArray, c.size ≤ 4000 → wdA (L ++ ⟨#[35]⟩ ++ c) = (W, 0, 0)) := fun c hc => line_end HLN.out hL6 hc
        clear HLN HWL HWR HCL
        by_cases h4 : 4000 < cm.size
        · have d4 : ((4000 : Int) < (cm.size : Int)) = True := eq_true (by omega)
          have h44 : 4000 ≤ cm.size := by omega
          have hc4 : (cm.extract 0 4000).size = 4000 := by rw [size_cut cm 0 4000 (by omega)]
          have HP9 : Hid (∀ w', Below w.heap.size w w' → Calls Tryd.prog 9 #[.string (L ++ ⟨#[35]⟩ ++ cm.extract 0 4000)] w' fun e w'' => ∃ v, e = .returned (.tuple #[v, .int .i64 0, .int .i64 0]) ∧ WdR w'.heap.size w'' v W ∧ Below w'.heap.size w' w'') := fun w' hb => by
            have h9 := HPW.out (L ++ ⟨#[35]⟩ ++ cm.extract 0 4000) w' hb
            rw [HE9.out _ (by omega)] at h9
            exact h9
          clear HPW HE9 h4
          go_wp2_with fail
          refine (HP9.out _ hbel).mono ?_
          rintro e z1 ⟨v10, rfl, hr10, y1⟩
          obtain ⟨a10, c10, e10⟩ := hr10.shape
          obtain ⟨a6, c6, e6⟩ := HWD.out.shape
          subst e10 e6
          have HSY : Hid (Calls Tryd.prog 10 #[.slice a10 W.length c10, .slice a6 W.length c6] z1 fun e w'' => e = .returned (.bool true) ∧ Below z1.heap.size z1 w'') := sameWords_yes W _ _ z1 (fun w' hb => (hr10.kept hb).at) (fun w' hb => (HWD.out.kept (andThen y1 hb)).at)
          have Y1 := andThen hbel y1
          clear HP9 hr10 y1 hbel HWD
          go_wp2_with fail
          refine HSY.out.mono ?_
          rintro e z2 ⟨rfl, y2⟩
          have Y2 := andThen Y1 y2
          clear HSY y2 Y1
          go_wp2
          go_ret
          exact ⟨rfl, Y2⟩
        · have d4 : ((4000 : Int) < (cm.size : Int)) = False := eq_false (by omega)
          have hc4 : cm.size ≤ 4000 := by omega
          have HP9 : Hid (∀ w', Below w.heap.size w w' → Calls Tryd.prog 9 #[.string (L ++ ⟨#[35]⟩ ++ cm)] w' fun e w'' => ∃ v, e = .returned (.tuple #[v, .int .i64 0, .int .i64 0]) ∧ WdR w'.heap.size w'' v W ∧ Below w'.heap.size w' w'') := fun w' hb => by
            have h9 := HPW.out (L ++ ⟨#[35]⟩ ++ cm) w' hb
            rw [HE9.out _ (by omega)] at h9
            exact h9
          clear HPW HE9 h4
          go_wp2_with fail
          refine (HP9.out _ hbel).mono ?_
          rintro e z1 ⟨v10, rfl, hr10, y1⟩
          obtain ⟨a10, c10, e10⟩ := hr10.shape
          obtain ⟨a6, c6, e6⟩ := HWD.out.shape
          subst e10 e6
          have HSY : Hid (Calls Tryd.prog 10 #[.slice a10 W.length c10, .slice a6 W.length c6] z1 fun e w'' => e = .returned (.bool true) ∧ Below z1.heap.size z1 w'') := sameWords_yes W _ _ z1 (fun w' hb => (hr10.kept hb).at) (fun w' hb => (HWD.out.kept (andThen y1 hb)).at)
          have Y1 := andThen hbel y1
          clear HP9 hr10 y1 hbel HWD
          go_wp2_with fail
          refine HSY.out.mono ?_
          rintro e z2 ⟨rfl, y2⟩
          have Y2 := andThen Y1 y2
          clear HSY y2 Y1
          go_wp2
          go_ret
          exact ⟨rfl, Y2⟩
    · have HE9 : Hid (∀ c : ByteArray, c.size ≤ 4000 → wdA (L ++ ⟨#[35]⟩ ++ c) = (W, 0, 0)) := fun c hc => line_end HLN.out hL6 hc
      clear HLN HWL HWR HCL
      by_cases h4 : 4000 < cm.size
      · have d4 : ((4000 : Int) < (cm.size : Int)) = True := eq_true (by omega)
        have h44 : 4000 ≤ cm.size := by omega
        have hc4 : (cm.extract 0 4000).size = 4000 := by rw [size_cut cm 0 4000 (by omega)]
        have HP9 : Hid (∀ w', Below w.heap.size w w' → Calls Tryd.prog 9 #[.string (L ++ ⟨#[35]⟩ ++ cm.extract 0 4000)] w' fun e w'' => ∃ v, e = .returned (.tuple #[v, .int .i64 0, .int .i64 0]) ∧ WdR w'.heap.size w'' v W ∧ Below w'.heap.size w' w'') := fun w' hb => by
          have h9 := HPW.out (L ++ ⟨#[35]⟩ ++ cm.extract 0 4000) w' hb
          rw [HE9.out _ (by omega)] at h9
          exact h9
        clear HPW HE9 h4
        go_wp2_with fail
        refine (HP9.out _ hbel).mono ?_
        rintro e z1 ⟨v10, rfl, hr10, y1⟩
        obtain ⟨a10, c10, e10⟩ := hr10.shape
        obtain ⟨a6, c6, e6⟩ := HWD.out.shape
        subst e10 e6
        have HSY : Hid (Calls Tryd.prog 10 #[.slice a10 W.length c10, .slice a6 W.length c6] z1 fun e w'' => e = .returned (.bool true) ∧ Below z1.heap.size z1 w'') := sameWords_yes W _ _ z1 (fun w' hb => (hr10.kept hb).at) (fun w' hb => (HWD.out.kept (andThen y1 hb)).at)
        have Y1 := andThen hbel y1
        clear HP9 hr10 y1 hbel HWD
        go_wp2_with fail
        refine HSY.out.mono ?_
        rintro e z2 ⟨rfl, y2⟩
        have Y2 := andThen Y1 y2
        clear HSY y2 Y1
        go_wp2
        go_ret
        exact ⟨rfl, Y2⟩
      · have d4 : ((4000 : Int) < (cm.size : Int)) = False := eq_false (by omega)
        have hc4 : cm.size ≤ 4000 := by omega
        have HP9 : Hid (∀ w', Below w.heap.size w w' → Calls Tryd.prog 9 #[.string (L ++ ⟨#[35]⟩ ++ cm)] w' fun e w'' => ∃ v, e = .returned (.tuple #[v, .int .i64 0, .int .i64 0]) ∧ WdR w'.heap.size w'' v W ∧ Below w'.heap.size w' w'') := fun w' hb => by
          have h9 := HPW.out (L ++ ⟨#[35]⟩ ++ cm) w' hb
          rw [HE9.out _ (by omega)] at h9
          exact h9
        clear HPW HE9 h4
        go_wp2_with fail
        refine (HP9.out _ hbel).mono ?_
        rintro e z1 ⟨v10, rfl, hr10, y1⟩
        obtain ⟨a10, c10, e10⟩ := hr10.shape
        obtain ⟨a6, c6, e6⟩ := HWD.out.shape
        subst e10 e6
        have HSY : Hid (Calls Tryd.prog 10 #[.slice a10 W.length c10, .slice a6 W.length c6] z1 fun e w'' => e = .returned (.bool true) ∧ Below z1.heap.size z1 w'') := sameWords_yes W _ _ z1 (fun w' hb => (hr10.kept hb).at) (fun w' hb => (HWD.out.kept (andThen y1 hb)).at)
        have Y1 := andThen hbel y1
        clear HP9 hr10 y1 hbel HWD
        go_wp2_with fail
        refine HSY.out.mono ?_
        rintro e z2 ⟨rfl, y2⟩
        have Y2 := andThen Y1 y2
        clear HSY y2 Y1
        go_wp2
        go_ret
        exact ⟨rfl, Y2⟩
end Go.Proofs.YtneifdbcjicfgaaDoor

/-
  TextLine: the arguments.
-/
namespace Go.Proofs.YtneifdbcjicfgaaDoor
open Go Go.RowKit Go.ChangeShapes Go.WideShapes Go.ChangeAt
open Tx

theorem cellsTIe : Tryd.prog.cellsOf 3 = 1 := by kernel_rfl
theorem cellsTISe : Tryd.prog.cellsOf 27 = 1 := by kernel_rfl
theorem cellsPARTe : Tryd.prog.cellsOf 29 = 5 := by kernel_rfl
theorem i64_boundse {n : Int} (h : (Lit.int .i64 n).wf = true) : -9223372036854775808 ≤ n ∧ n ≤ 9223372036854775807 := by
  have e : IntKind.i64.min = -9223372036854775808 := by decide
  simp [Lit.wf] at h
  omega
theorem open_is {H : Type} {enc : TypeId × Value → H} {W : World} {fuel : Nat} {v : Value} {x : DataW H × List MemPlace} (hf : DataW.trod enc Tryd.prog W 0 (fun _ => true) true fuel 27 [v] = some x) : ∃ zs, Is W v zs := by
  rcases open_ints Tryd.underlying27 Tryd.underlying3 cellsTIe hf with ⟨hcs, _⟩ | ⟨a, len, cap, zs, hcs, _, hl, hm, hzl, hx, hcell, hwz⟩
  · simp only [List.cons.injEq, and_true] at hcs
    subst hcs
    exact ⟨[], none, 0, rfl, Nat.le_refl _, Nat.zero_le _, fun k z hz => by simp at hz⟩
  · simp only [List.cons.injEq, and_true] at hcs
    subst hcs
    simp only [if_true] at hzl
    refine ⟨zs.take len, some a, cap, by rw [List.length_take, Nat.min_eq_left (by omega)], by rw [List.length_take]; omega, hm, fun k z hz => ?_⟩
    have hk : k < len := by
      have := (List.getElem?_eq_some_iff.1 hz).1
      rw [List.length_take] at this
      omega
    rw [List.getElem?_take_of_lt hk] at hz
    have hmem : z ∈ zs := List.mem_of_getElem? hz
    obtain ⟨b, off, spot⟩ := a
    have hspot : spot = none := by simpa [Addr.add] using World.cell?_spot (hcell 0 (by omega))
    subst hspot
    have h9 := hcell k (by omega)
    rw [List.getD_eq_getElem?_getD, hz] at h9
    exact ⟨i64_boundse (hwz z hmem), b, off, rfl, by rw [← Go.WideShapes.add_plain]; exact h9⟩
set_option maxRecDepth 100000 in
/-- one part's cells -/
theorem open_part {H : Type} {enc : TypeId × Value → H} {W : World} {fuel : Nat} {vs : List Value} {D : DataW H} {p : List MemPlace} (hf : DataW.trod enc Tryd.prog W 0 (fun _ => true) true fuel 29 vs = some (D, p)) (hlen : vs.length = 5) :
    ∃ r : Prt, vs = [.int .i64 r.k, r.pk, .int .i64 r.nm, .string r.tx, .int .i64 r.gp] ∧ Is W r.pk r.zs ∧ (-9223372036854775808 ≤ r.nm ∧ r.nm ≤ 9223372036854775807) := by
  obtain ⟨xs, k', _, hxy, _, hxl, hfs⟩ := DataW.trod_struct Tryd.underlying29 hf
  match xs, hxl, vs, hlen with
  | [y0, y1, y2, y3, y4], _, [v0, v1, v2, v3, v4], _ =>
    have g0 := hfs 0 _ rfl
    have g1 := hfs 1 _ rfl
    have g2 := hfs 2 _ rfl
    have g3 := hfs 3 _ rfl
    have g4 := hfs 4 _ rfl
    simp [cellsTIe, cellsTSTR, cellsTISe] at g0 g1 g2 g3 g4
    obtain ⟨z0, e0, _, _⟩ := DataW.trod_int Tryd.underlying3 g0
    obtain ⟨zs, h1⟩ := open_is g1
    obtain ⟨z2, e2, _, b2⟩ := DataW.trod_int Tryd.underlying3 g2
    obtain ⟨z3, e3, _, _⟩ := DataW.trod_string Tryd.underlying9 g3
    obtain ⟨z4, e4, _, _⟩ := DataW.trod_int Tryd.underlying3 g4
    simp only [List.cons.injEq, and_true] at e0 e2 e3 e4
    subst e0 e2 e3 e4
    exact ⟨⟨z0, v1, zs, z2, z3, z4⟩, rfl, h1, i64_boundse b2⟩
theorem listed {α : Type} {P : Nat → α → Prop} : ∀ n, (∀ k, k < n → ∃ a, P k a) → ∃ l : List α, l.length = n ∧ ∀ k a, l[k]? = some a → P k a
  | 0, _ => ⟨[], rfl, fun k a h => by simp at h⟩
  | n + 1, h => by
    obtain ⟨l, hl, hp⟩ := listed n (fun k hk => h k (by omega))
    obtain ⟨a, ha⟩ := h n (by omega)
    refine ⟨l ++ [a], by simp [hl], fun k b hb => ?_⟩
    by_cases hk : k < n
    · rw [List.getElem?_append_left (by omega)] at hb
      exact hp k b hb
    · rw [List.getElem?_append_right (by omega)] at hb
      obtain rfl : k = n := by
        have := (List.getElem?_eq_some_iff.1 hb).1
        simp at this
        omega
      rw [hl] at hb
      simp at hb
      exact hb ▸ ha
set_option maxRecDepth 100000 in
theorem open_pts {H : Type} {enc : TypeId × Value → H} {W : World} {base : Nat} {v : Value} {d : DataW H} {p : List MemPlace} (hv : Value.okWide Tryd.prog W .any base 22 v)
    (h : DataW.Trod enc Tryd.prog W 0 (fun _ => true) true 22 v d p) : ∃ ps, Pts W v ps := by
  obtain ⟨a0, len0, cap0, rfl⟩ := okWide_slice Tryd.underlying22 hv
  obtain ⟨fuel, hf⟩ := h
  rcases Deep.open_slice Tryd.underlying22 hf with ⟨hcs, _⟩ | ⟨a, len, cap, m, n, D, Pl, hcs, _, hl, hm, hmm, hx, hel⟩
  · simp [Value.cells] at hcs
    obtain ⟨rfl, rfl, rfl⟩ := hcs
    exact ⟨[], none, 0, rfl, Nat.le_refl _, Nat.zero_le _, fun k r hk => by simp at hk⟩
  · simp [Value.cells] at hcs
    obtain ⟨rfl, rfl, rfl⟩ := hcs
    have each : ∀ k, k < len0 → ∃ r : Prt, (-9223372036854775808 ≤ r.nm ∧ r.nm ≤ 9223372036854775807) ∧ Is W r.pk r.zs ∧ ∃ b off, a = ⟨b, off, none⟩ ∧ W.cell? ⟨b, off + k * 5, none⟩ = some (.int .i64 r.k) ∧ W.cell? ⟨b, off + k * 5 + 1, none⟩ = some r.pk ∧ W.cell? ⟨b, off + k * 5 + 2, none⟩ = some (.int .i64 r.nm) ∧ W.cell? ⟨b, off + k * 5 + 3, none⟩ = some (.string r.tx) ∧ W.cell? ⟨b, off + k * 5 + 4, none⟩ = some (.int .i64 r.gp) := fun k hk => by
      have hkm : k < m := by rw [hmm]; simp; omega
      have hspot : a.spot = none := by
        obtain ⟨cs0, h10, _⟩ := hel 0 (by omega)
        rw [cellsPARTe] at h10
        obtain ⟨_, hl0, hc0⟩ := World.cells?_some h10
        have r0 := hc0 0 (by omega)
        rw [List.getElem?_eq_getElem (show 0 < cs0.length by omega)] at r0
        simpa [Addr.add] using World.cell?_spot r0
      obtain ⟨cs', h1, h2⟩ := hel k hkm
      rw [cellsPARTe] at h1
      obtain ⟨_, hlen, hcell⟩ := World.cells?_some h1
      obtain ⟨r, e, hb, hn⟩ := open_part h2 hlen
      obtain ⟨b, off, spot⟩ := a
      obtain rfl : spot = none := hspot
      have hc : ∀ j u, cs'[j]? = some u → W.cell? ⟨b, off + k * 5 + j, none⟩ = some u := fun j u hu => by
        have hj : j < 5 := by have := (List.getElem?_eq_some_iff.1 hu).1; omega
        have := hcell j hj
        rw [Deep.add_add, Go.WideShapes.add_plain, ← Nat.add_assoc, hu] at this
        exact this
      rw [e] at hc
      exact ⟨r, hn, hb, b, off, rfl, hc 0 _ rfl, hc 1 _ rfl, hc 2 _ rfl, hc 3 _ rfl, hc 4 _ rfl⟩
    obtain ⟨rs, hrl, hrs⟩ := listed len0 each
    refine ⟨rs, some a, cap0, by rw [hrl], by omega, hm, fun k r hr => ?_⟩
    obtain ⟨h1, h2, b, off, e, c⟩ := hrs k r hr
    exact ⟨h1, h2, b, off, by rw [e], c⟩
end Go.Proofs.YtneifdbcjicfgaaDoor
