import Derived.Lib.LaidTab
import Derived.Test.YtenhaogheilmoaaDoorQVJ
import Derived.Test.YtenhaogheilmoaaDoorQA2
import Derived.Test.YtenhaogheilmoaaDoorQR4
/-
  ArchivePacks: the walk.
-/
namespace Go.Proofs.YtenhaogheilmoaaDoor
open Go Go.RowKit
open Wb

theorem pkA_len (top : Int) (rs : List Rec) (hg : ∀ r ∈ rs, r.nm.size ≤ 1048576 ∧ r.x.fit ∧ ok r.l) (hn : rs.length ≤ 120) (ht : top ≤ 9223372036854775807) : (pkA top rs).2.length ≤ 9000000 := by
  unfold pkA
  split
  · exact Nat.zero_le _
  · split
    · exact Nat.zero_le _
    · rename_i h1 h2
      have hgd : ∀ r ∈ rs, r.good := fun r hr => ⟨badC_good rs (by simpa using h2) r hr, (hg r hr).2.1, (hg r hr).2.2⟩
      have := pack_small top.toNat rs (by omega) hgd hn
      show (Ar.pack recC top.toNat rs).length ≤ 9000000
      omega
/-- a row stays where its block is none of those -/
theorem FrK.own {w w' : World} {F : Nat → Prop} (h : FrK w w' F) {B : Nat} {d : Value} {l : List Nat} (o : Own B w d l) (hF : ∀ g, d.ownBlock = some g → ¬ F g) : Own B w' d l := own_keptB o fun g e => h.block g (own_block o g e).2 (hF g e)
theorem Bk.ge {B : Nat} {w : World} {gK : Nat} {vl vm : Value} {rows : List (Value × Nat × Nat)} (h : Bk B w gK vl vm rows) (k : Nat) : (vl.ownBlock = some k → B ≤ k ∧ k < w.heap.size) ∧ (vm.ownBlock = some k → B ≤ k ∧ k < w.heap.size) := ⟨fun e => World.ownsRow.lt h.lists k e, fun e => own_block h.marks k e⟩
set_option maxRecDepth 100000 in
set_option maxHeartbeats 16000000 in
theorem archivePacks_walk (top : Int) (v : Value) (rs : List Rec) (w : World) (ht : -9223372036854775808 ≤ top ∧ top ≤ 9223372036854775807) (hR : RecsAt w v rs) (hcap : ∀ ao n cap, v = .slice ao n cap → n ≤ cap ∧ cap ≤ maxLen) (hg : LGood rs) (hT : Tab w) (hTs : Tabs w) :
    Calls Tryd.prog 3 #[.int .i64 top, v] w fun e w' => e = .returned (.bool true) ∧ Below w.heap.size w w' := by
  have HCR : Hid (Calls Tryd.prog 4 #[v] w fun e w' => ∃ v' ps, e = .returned v' ∧ Rws w.heap.size w' v' ps ∧ ps.map Prod.fst = rs.take 120 ∧ Below w.heap.size w w') := arcutr_any v rs w hR hcap hg
  have HAW : Hid (∀ W, Below w.heap.size w W → Calls Tryd.prog 5 #[] W fun e w' => e = .returned (.bool true) ∧ Below W.heap.size W w') := fun W hW => arawake_any W (hT.kept hW) (hTs.kept hW).lets (hTs.kept hW).tags
  have hg1 : LGood (rs.take 120) := ⟨fun r hr => hg.each r (List.mem_of_mem_take hr), by have := hg.few; rw [List.length_take]; omega⟩
  have hgo : ∀ r ∈ rs.take 120, r.nm.size ≤ 1048576 ∧ r.x.fit ∧ ok r.l := fun r hr => ⟨(hg.each r (List.mem_of_mem_take hr)).1, (hg.each r (List.mem_of_mem_take hr)).2.1, recsAt_ok hR r (List.mem_of_mem_take hr)⟩
  have hrl : (rs.take 120).length ≤ 120 := by rw [List.length_take]; omega
  obtain ⟨ao, cap, rfl, -, -⟩ := hR
  obtain ⟨R1, hR1⟩ : ∃ R1, rs.take 120 = R1 := ⟨_, rfl⟩
  rw [hR1] at HCR hg1 hgo hrl
  obtain ⟨A1, A2, hA⟩ : ∃ A1 A2, pkA top R1 = (A1, A2) := ⟨_, _, rfl⟩
  obtain ⟨D1, D2, hD⟩ : ∃ D1 D2, pkA 5 [] = (D1, D2) := ⟨_, _, rfl⟩
  have HLA : Hid (A2.length ≤ 9000000) := by
    have := pkA_len top R1 hgo hrl ht.2
    rw [hA] at this
    exact this
  have HLD : Hid (D2.length ≤ 9000000) := by
    have := pkA_len 5 [] (fun r hr => nomatch hr) (by simp) (by omega)
    rw [hD] at this
    exact this
  have HLR : Hid (∀ u W, RecsAt W u R1 → Calls Tryd.prog 6 #[u] W fun e w' => ∃ g c ps, e = .returned (.slice (some ⟨g, 0, none⟩) R1.length c) ∧ LdR W.heap.size w' g c ps ∧ ps.map Prod.fst = R1 ∧ Below W.heap.size W w') := fun u W h => arlaidr_any u R1 W h hg1 hrl
  have HPK : Hid (∀ u W, Below w.heap.size w W → RecsAt W u R1 → Calls Tryd.prog 7 #[.agg #[.int .i64 top, u]] W fun e w' => ∃ a c, ∃ m : Nat, e = .returned (.tuple #[.slice a m c, .int .i64 A1]) ∧ Own W.heap.size w' (.slice a m c) A2 ∧ Below W.heap.size W w') := fun u W hW h => by
    have e := arpack_any top R1 u W ht.2 h (fun r hr => ⟨(hgo r hr).1, (hgo r hr).2.1⟩) hrl (hT.kept hW) (hTs.kept hW).lets (hTs.kept hW).tags
    rw [hA] at e
    exact e
  have HRP : Hid (∀ u W, Below w.heap.size w W → RecsAt W u R1 → Calls Tryd.prog 8 #[.agg #[.int .i64 top, u]] W fun e w' => ∃ a c, ∃ m : Nat, e = .returned (.tuple #[.slice a m c, .int .i64 A1]) ∧ Own W.heap.size w' (.slice a m c) A2 ∧ Below W.heap.size W w') := fun u W hW h => by
    have e := rarpack_any top R1 u W ht.2 h (fun r hr => ⟨(hgo r hr).1, (hgo r hr).2.1⟩) hrl (hTs.kept hW)
    rw [hA] at e
    exact e
  have HP5 : Hid (∀ W, Below w.heap.size w W → Calls Tryd.prog 7 #[.agg #[.int .i64 5, .slice none 0 0]] W fun e w' => ∃ a c, ∃ m : Nat, e = .returned (.tuple #[.slice a m c, .int .i64 D1]) ∧ Own W.heap.size w' (.slice a m c) D2 ∧ Below W.heap.size W w') := fun W hW => by
    have e := arpack_any 5 [] (.slice none 0 0) W (by omega) (recsAt_nil W) (fun r hr => nomatch hr) (by simp) (hT.kept hW) (hTs.kept hW).lets (hTs.kept hW).tags
    rw [hD] at e
    exact e
  have HR5 : Hid (∀ W, Below w.heap.size w W → Calls Tryd.prog 8 #[.agg #[.int .i64 5, .slice none 0 0]] W fun e w' => ∃ a c, ∃ m : Nat, e = .returned (.tuple #[.slice a m c, .int .i64 D1]) ∧ Own W.heap.size w' (.slice a m c) D2 ∧ Below W.heap.size W w') := fun W hW => by
    have e := rarpack_any 5 [] (.slice none 0 0) W (by omega) (recsAt_nil W) (fun r hr => nomatch hr) (by simp) (hTs.kept hW)
    rw [hD] at e
    exact e
  have HSA : Hid (∀ (x y : Value) (l : List Nat) (W : World), Bs W x l → Bs W y l → Calls Tryd.prog 9 #[x, y] W fun e w' => e = .returned (.bool true) ∧ Below W.heap.size W w') := fun x y l W h1 h2 => (arsameb_any x y l l W h1 h2).mono fun e w' ⟨he, hb⟩ => ⟨by rw [he]; simp, hb⟩
  have hA1 : (A1 != A1) = false := by simp
  have hA2 : (A1 == A1) = true := by simp
  have hD1 : (D1 != D1) = false := by simp
  have HRL : Hid (R1.length ≤ 120) := hrl
  clear hcap hg hT hTs hA hD hg1 hgo hrl hR1 ht
  go_enter Tryd.func3, Tryd.ntmps3
  go_wp2_with fail
  refine HCR.out.mono ?_
  rintro e w1 ⟨v1, ps1, rfl, o1, m1, b1⟩
  have HC1 : Hid (RecsAt w1 v1 R1 ∧ Below w.heap.size w w1) := ⟨m1 ▸ o1.recs.recsAt, b1⟩
  obtain ⟨a1, c1, e1, -, -⟩ := id HC1.out.1
  subst e1
  clear o1 m1 b1 HCR
  go_wp2_with fail
  refine (HAW.out _ HC1.out.2).mono ?_
  rintro e w2 ⟨rfl, b2⟩
  have HC2 : Hid (RecsAt w2 (.slice a1 R1.length c1) R1 ∧ Below w.heap.size w w2) := ⟨HC1.out.1.kept b2, andThen HC1.out.2 b2⟩
  clear b2 HC1 HAW
  go_wp2_with fail
  refine (HLR.out _ _ HC2.out.1).mono ?_
  rintro e w3 ⟨g3, c3, ps, rfl, l3, m3, b3⟩
  have HC3 : Hid (RecsAt w3 (.slice a1 R1.length c1) R1 ∧ Below w.heap.size w w3) := ⟨HC2.out.1.kept b3, andThen HC2.out.2 b3⟩
  have HL3 : Hid (LdR w2.heap.size w3 g3 c3 ps ∧ ps.map Prod.fst = R1 ∧ R1.length = ps.length) := ⟨l3, m3, by rw [← m3, List.length_map]⟩
  have HIN : Hid (∀ W, Below w3.heap.size w3 W → RecsAt W (.slice (some ⟨g3, 0, none⟩) R1.length c3) R1) := fun W hW => by
    have e := (HL3.out.1.kept hW).recs
    rw [HL3.out.2.1, ← HL3.out.2.2] at e
    exact e
  have HII : Hid (∀ u W, Below w3.heap.size w3 W → RecsAt W u R1 → Calls Tryd.prog 10 #[.slice (some ⟨g3, 0, none⟩) R1.length c3, u] W fun e w' => e = .returned (.bool true) ∧ Below W.heap.size W w') := fun u W hW hu => by
    have e := arintr_any _ g3 c3 ps u W (HL3.out.1.kept hW) (by rw [HL3.out.2.1]; exact hu) (by rw [← HL3.out.2.2]; exact HRL.out)
    rw [← HL3.out.2.2] at e
    exact e
  clear l3 m3 b3 HC2 HLR HL3
  go_wp2_with fail
  refine (HPK.out _ _ HC3.out.2 (HIN.out _ (Below.refl _ _))).mono ?_
  rintro e w4 ⟨a4, c4, m4, rfl, o4, b4⟩
  have HC4 : Hid (Own w3.heap.size w4 (.slice a4 m4 c4) A2 ∧ RecsAt w4 (.slice a1 R1.length c1) R1 ∧ Below w3.heap.size w3 w4 ∧ Below w.heap.size w w4) := ⟨o4, HC3.out.1.kept b4, b4, andThen HC3.out.2 b4⟩
  have hm4 : m4 = A2.length := by
    obtain ⟨_, _, e, -⟩ := o4.bs.shape
    simp only [Value.slice.injEq] at e
    exact e.2.1
  have HM4 : Hid (m4 = A2.length) := hm4
  clear o4 b4 hm4
  go_wp2_with fail
  refine (HRP.out _ _ HC4.out.2.2.2 HC4.out.2.1).mono ?_
  rintro e w5 ⟨a5, c5, m5, rfl, o5, b5⟩
  have HC5 : Hid (Own w3.heap.size w5 (.slice a4 m4 c4) A2 ∧ Own w4.heap.size w5 (.slice a5 m5 c5) A2 ∧ RecsAt w5 (.slice a1 R1.length c1) R1 ∧ Below w3.heap.size w3 w5 ∧ Below w.heap.size w w5) := ⟨HC4.out.1.kept b5, o5, HC4.out.2.1.kept b5, andThen HC4.out.2.2.1 b5, andThen HC4.out.2.2.2 b5⟩
  have HS4 : Hid (∀ g, (Value.slice a4 m4 c4).ownBlock = some g → g < w4.heap.size) := fun g e => (own_block HC4.out.1 g e).2
  clear o5 b5 HRP
  go_wp2_with fail
  refine (HSA.out _ _ A2 _ HC5.out.1.bs HC5.out.2.1.bs).mono ?_
  rintro e w6 ⟨rfl, b6⟩
  have HC6 : Hid (Own w3.heap.size w6 (.slice a4 m4 c4) A2 ∧ Own w4.heap.size w6 (.slice a5 m5 c5) A2 ∧ RecsAt w6 (.slice a1 R1.length c1) R1 ∧ Below w3.heap.size w3 w6 ∧ Below w.heap.size w w6) := ⟨HC5.out.1.kept b6, HC5.out.2.1.kept b6, HC5.out.2.2.1.kept b6, andThen HC5.out.2.2.2.1 b6, andThen HC5.out.2.2.2.2 b6⟩
  clear b6 HC5
  go_wp2_with fail
  refine (HII.out _ _ HC6.out.2.2.2.1 HC6.out.2.2.1).mono ?_
  rintro e w7 ⟨rfl, b7⟩
  have HC7 : Hid (∀ W, Below w7.heap.size w7 W → Own w3.heap.size W (.slice a4 m4 c4) A2 ∧ Own w4.heap.size W (.slice a5 m5 c5) A2 ∧ Below w3.heap.size w3 W ∧ Below w.heap.size w W) := fun W hW => ⟨(HC6.out.1.kept b7).kept hW, (HC6.out.2.1.kept b7).kept hW, andThen (andThen HC6.out.2.2.2.1 b7) hW, andThen (andThen HC6.out.2.2.2.2 b7) hW⟩
  have HC5G : Hid (∀ g, (Value.slice a5 m5 c5).ownBlock = some g → w4.heap.size ≤ g ∧ g < w7.heap.size) := fun g e => own_block ((HC7.out _ (Below.refl _ _)).2.1) g e
  have HWB : Hid (∀ W, W = w7.alloc (.cells #[.slice none 0 0, .slice none 0 0] 38) → Below w7.heap.size w7 W ∧ w7.heap.size ≤ W.heap.size ∧ Calls Tryd.prog 11 #[.pointer (some ⟨w7.heap.size, 0, none⟩), .slice a4 m4 c4] W fun e w' => e = .returned (.tuple #[]) ∧ BtPost w3.heap.size w7.heap.size (.slice none 0 0) (.slice none 0 0) (.slice a4 m4 c4) [] A2.length W w') := fun W hW => by
    subst hW
    have hb := up0 w7 (.cells #[.slice none 0 0, .slice none 0 0] 38)
    refine ⟨hb, hb.size, ?_⟩
    have h7 := HC7.out _ hb
    exact arbtake_any w3.heap.size w7.heap.size (.slice none 0 0) (.slice none 0 0) (.slice a4 m4 c4) [] A2 _ ⟨lb_new w7 [.slice none 0 0, .slice none 0 0] 38, World.ownsRow_nil _ _ _ _, Own.nil _ _, (fun r hr => nomatch hr), (fun r hr => nomatch hr)⟩ h7.1 HLA.out (by simp) h7.2.2.1.size (fun r hr => nomatch hr) (fun g e => by cases e)
  clear b7 HC6 HII HC4
  go_wp2_with fail
  obtain ⟨WB, hWB⟩ : ∃ WB, WB = w7.alloc (.cells #[.slice none 0 0, .slice none 0 0] 38) := ⟨_, rfl⟩
  obtain ⟨hWb, hWs, hcall⟩ := HWB.out _ hWB
  rw [← hWB]
  have HWC : Hid (Below w7.heap.size w7 WB ∧ w7.heap.size ≤ WB.heap.size ∧ w7.heap.size < WB.heap.size) := ⟨hWb, hWs, by rw [hWB, heap_one]; omega⟩
  refine hcall.mono ?_
  rintro e w8 ⟨rfl, tk8⟩
  clear hWB hcall hWb hWs HWB
  obtain ⟨vl8, vm8, x33, x38, x41, mm, k8, n33, n38, n41, nvl, nvm, fr8⟩ := tk8
  have hsz3 : w3.heap.size ≤ w7.heap.size := (HC7.out _ (Below.refl _ _)).2.2.1.size
  have HS37 : Hid (w3.heap.size ≤ w7.heap.size) := hsz3
  have hb8 : Below w3.heap.size WB w8 := fr8.below _ (by have := HWC.out.2.1; omega) fun k hk => by
    rcases hk with rfl | e | e | e
    · exact hsz3
    · cases e
    · cases e
    · exact (own_block (HC7.out _ (Below.refl _ _)).1 k e).1
  have HC8 : Hid (Bk w3.heap.size w8 w7.heap.size vl8 vm8 (newR A2.length mm (.slice a4 m4 c4) x33 x38 x41) ∧ Own w4.heap.size w8 (.slice a5 m5 c5) A2 ∧ Below w3.heap.size w3 w8 ∧ Below w.heap.size w w8 ∧ WB.heap.size ≤ w8.heap.size) := by
    have h7 := HC7.out _ HWC.out.1
    refine ⟨k8, fr8.own h7.2.1 fun g e hF => ?_, h7.2.2.1.trans hb8, h7.2.2.2.trans (hb8.mono HC3.out.2.size), fr8.size⟩
    have hg := HC5G.out g e
    rcases hF with rfl | e2 | e2 | e2
    · omega
    · cases e2
    · cases e2
    · have := HS4.out g e2
      omega
  have HNV : Hid (∀ g, (vl8.ownBlock = some g → WB.heap.size ≤ g) ∧ (vm8.ownBlock = some g → WB.heap.size ≤ g)) := fun g => by
    constructor
    · intro e
      rcases nvl with h | h
      · rw [h] at e
        cases e
      · exact h g e
    · intro e
      rcases nvm with h | h
      · rw [h] at e
        cases e
      · exact h g e
  clear k8 n33 n38 n41 nvl nvm fr8 hb8 HC7 hsz3
  go_wp2_with fail
  refine (HP5.out _ HC8.out.2.2.2.1).mono ?_
  rintro e w9 ⟨a9, c9, m9, rfl, o9, b9⟩
  have HC9 : Hid (Own w8.heap.size w9 (.slice a9 m9 c9) D2 ∧ Below w8.heap.size w8 w9 ∧ Below w.heap.size w w9) := ⟨o9, b9, andThen HC8.out.2.2.2.1 b9⟩
  clear o9 b9
  go_wp2_with fail
  refine (HR5.out _ HC9.out.2.2).mono ?_
  rintro e w10 ⟨ay, cy, my, rfl, oy, b10⟩
  have HC10 : Hid (Own w8.heap.size w10 (.slice a9 m9 c9) D2 ∧ Bs w10 (.slice ay my cy) D2 ∧ Below w8.heap.size w8 w10 ∧ Below w.heap.size w w10) := ⟨HC9.out.1.kept b10, oy.bs, andThen HC9.out.2.1 b10, andThen HC9.out.2.2 b10⟩
  clear oy b10 HC9 HP5 HR5
  go_wp2_with fail
  refine (HSA.out _ _ D2 _ HC10.out.1.bs HC10.out.2.1).mono ?_
  rintro e w11 ⟨rfl, b11⟩
  have hW11 : Below w8.heap.size w8 w11 := andThen HC10.out.2.2.1 b11
  have ox : Own w8.heap.size w11 (.slice a9 m9 c9) D2 := HC10.out.1.kept b11
  have K11 : Bk w3.heap.size w11 w7.heap.size vl8 vm8 (newR A2.length mm (.slice a4 m4 c4) x33 x38 x41) := HC8.out.1.kept hW11
  have h38 : w3.heap.size ≤ w8.heap.size := HC8.out.2.2.1.size
  have HTK : Hid (Calls Tryd.prog 11 #[.pointer (some ⟨w7.heap.size, 0, none⟩), .slice a9 m9 c9] w11 fun e w' => e = .returned (.tuple #[]) ∧ BtPost w3.heap.size w7.heap.size vl8 vm8 (.slice a9 m9 c9) (newR A2.length mm (.slice a4 m4 c4) x33 x38 x41) D2.length w11 w') := arbtake_any w3.heap.size w7.heap.size vl8 vm8 (.slice a9 m9 c9) _ D2 w11 K11 (own_weak ox h38) HLD.out (by simp [newR]) (Nat.le_trans h38 hW11.size) (fun r hr g e e2 => by
    have h1 := (World.ownsRow.lt (HC8.out.1.rws r hr) g e).2
    have h2 := (own_block ox g e2).1
    omega) (fun g e e2 => by
    have h1 := (own_block HC8.out.1.marks g e).2
    have h2 := (own_block ox g e2).1
    omega)
  have HC11 : Hid (Own w4.heap.size w11 (.slice a5 m5 c5) A2 ∧ Below w3.heap.size w3 w11 ∧ Below w.heap.size w w11 ∧ w8.heap.size ≤ w11.heap.size ∧ Own w8.heap.size w11 (.slice a9 m9 c9) D2 ∧ ∀ k, TkF w7.heap.size vl8 vm8 (.slice a9 m9 c9) k → w7.heap.size ≤ k) := ⟨HC8.out.2.1.kept hW11, andThen HC8.out.2.2.1 hW11, andThen HC8.out.2.2.2.1 hW11, hW11.size, ox, fun k hk => by
    have hs := HWC.out.2.1
    have h8 := HC8.out.2.2.2.2
    rcases hk with rfl | e | e | e
    · exact Nat.le_refl _
    · have := (HNV.out k).1 e
      omega
    · have := (HNV.out k).2 e
      omega
    · have := (own_block ox k e).1
      omega⟩
  clear b11 hW11 ox K11 HC10 h38
  go_wp2_with fail
  refine HTK.out.mono ?_
  rintro e w12 ⟨rfl, tk12⟩
  obtain ⟨vl12, vm12, y33, y38, y41, mm2, k12, -, -, -, -, -, fr12⟩ := tk12
  have hs3 : w3.heap.size ≤ w7.heap.size ∧ w7.heap.size ≤ w11.heap.size := by
    have h8 := HC8.out.2.2.2.2
    have hw := HWC.out.2.1
    have h11 := HC11.out.2.2.2.1
    exact ⟨HS37.out, by omega⟩
  have hb12 : Below w7.heap.size w11 w12 := fr12.below _ hs3.2 HC11.out.2.2.2.2.2
  have HC12 : Hid (Bk w3.heap.size w12 w7.heap.size vl12 vm12 (newR A2.length mm (.slice a4 m4 c4) x33 x38 x41 ++ newR D2.length mm2 (.slice a9 m9 c9) y33 y38 y41) ∧ Own w4.heap.size w12 (.slice a5 m5 c5) A2 ∧ Below w3.heap.size w3 w12 ∧ Below w.heap.size w w12) := by
    refine ⟨k12, fr12.own HC11.out.1 fun g e hF => ?_, HC11.out.2.1.trans (hb12.mono hs3.1), HC11.out.2.2.1.trans (hb12.mono (Nat.le_trans HC3.out.2.size hs3.1))⟩
    have hg := HC5G.out g e
    have := HC11.out.2.2.2.2.2 g hF
    omega
  clear k12 fr12 hb12 hs3 HTK HC11
  go_wp2_with fail
  refine (HPK.out _ _ HC12.out.2.2.2 (HIN.out _ HC12.out.2.2.1)).mono ?_
  rintro e w13 ⟨ad, cd, md, rfl, od, b13⟩
  have HC13 : Hid (Bk w3.heap.size w13 w7.heap.size vl12 vm12 (newR A2.length mm (.slice a4 m4 c4) x33 x38 x41 ++ newR D2.length mm2 (.slice a9 m9 c9) y33 y38 y41) ∧ Bs w13 (.slice a5 m5 c5) A2 ∧ Bs w13 (.slice ad md cd) A2 ∧ Below w.heap.size w w13) := ⟨HC12.out.1.kept b13, (HC12.out.2.1.kept b13).bs, od.bs, andThen HC12.out.2.2.2 b13⟩
  clear od b13 HC12 HPK
  go_wp2_with fail
  refine (HSA.out _ _ A2 _ HC13.out.2.2.1 HC13.out.2.1).mono ?_
  rintro e w14 ⟨rfl, b14⟩
  have HWH : Hid (Calls Tryd.prog 12 #[.pointer (some ⟨w7.heap.size, 0, none⟩)] w14 fun e w' => e = .returned (.bool true) ∧ Below w14.heap.size w14 w') := arwhole_any _ _ _ _ _ w14 (HC13.out.1.kept b14) (by simp [newR])
  have HB14 : Hid (Below w.heap.size w w14) := andThen HC13.out.2.2.2 b14
  clear b14 HC13
  go_wp2_with fail
  refine HWH.out.mono ?_
  rintro e w15 ⟨rfl, b15⟩
  have HB15 : Hid (Below w.heap.size w w15) := andThen HB14.out b15
  clear b15 HB14
  go_wp2_with fail
  go_ret
  exact ⟨rfl, HB15.out⟩
end Go.Proofs.YtenhaogheilmoaaDoor

/-
  ArchivePacks: its arguments and tables.
-/
namespace Go.Proofs.YtenhaogheilmoaaDoor
open Go Go.RowKit Go.ChangeShapes Go.WideShapes Go.ChangeAt
open Wb

set_option maxRecDepth 100000 in
theorem open_capsA {H : Type} {enc : TypeId × Value → H} {W : World} {v : Value} {d : DataW H} {p : List MemPlace}
    (h : DataW.Trod enc Tryd.prog W 0 (fun _ => true) true 22 v d p) : ∀ ao (len cap : Nat), v = .slice ao len cap → len ≤ cap ∧ cap ≤ maxLen := by
  intro ao len cap e
  subst e
  obtain ⟨fuel, hf⟩ := h
  have hf' : DataW.trod enc Tryd.prog W 0 (fun _ => true) true fuel 22 [Value.slice ao len cap] = some (d, p) := hf
  rcases Deep.open_slice Tryd.underlying22 hf' with ⟨hcs, _⟩ | ⟨a, len0, cap0, m, n, D, Pl, hcs, _, hl, hm, _⟩
  · simp at hcs
    obtain ⟨_, rfl, rfl⟩ := hcs
    exact ⟨Nat.le_refl _, Nat.zero_le _⟩
  · simp at hcs
    obtain ⟨_, rfl, rfl⟩ := hcs
    exact ⟨hl, hm⟩
theorem i64_boundsA {n : Int} (h : (Lit.int .i64 n).wf = true) : -9223372036854775808 ≤ n ∧ n ≤ 9223372036854775807 := i64_boundsk h
theorem gTabA : Tryd.prog.globalNamed "annals/wire.halves" = some 1 := by kernel_rfl
theorem gTabTypeA : (Tryd.prog.globals[1]?).map (·.type) = some 96 := by kernel_rfl
theorem cellsTAA : Tryd.prog.cellsOf 96 = 16 := by kernel_rfl
theorem cellsTWA : Tryd.prog.cellsOf 76 = 1 := by kernel_rfl
theorem halves_of {W : World} {l : List (String × DataW Unit)} (h : laidMet Tryd.prog l W) (hm : ("annals/wire.halves", Rows.laid_annals_wire_halves) ∈ l) : Tab W := by
  obtain ⟨g', t', cs, fuel, p, hg', ht', hvar, hd⟩ := Lib.laidMet.reads h hm
  obtain rfl := Option.some.inj (gTabA.symm.trans hg')
  obtain rfl := Option.some.inj (gTabTypeA.symm.trans ht')
  have ht : Lib.TabIs Tryd.prog W "annals/wire.halves" .u32 [0, 498536548, 997073096, 651767980, 1994146192, 1802195444, 1303535960, 1342533948, 3988292384, 4027552580, 3604390888, 3412177804, 2607071920, 2262029012, 2685067896, 3183342108] := by
    unfold Lib.TabIs
    rw [hvar, ← Lib.cells_of_tab Tryd.underlying96 Tryd.underlying76 cellsTWA cellsTAA hd]
  intro i hi
  rw [ht.cell gTabA i (by simpa using hi)]
  have key : ∀ i, i < 16 → ([0, 498536548, 997073096, 651767980, 1994146192, 1802195444, 1303535960, 1342533948, 3988292384, 4027552580, 3604390888, 3412177804, 2607071920, 2262029012, 2685067896, 3183342108] : List Int).getD i 0 = ((Wm.tab.getD i 0 : Nat) : Int) := by decide
  rw [key i hi]
/-- For the witness: the table's block holds what its initialiser lays. -/
def lay_halves : Obj → Obj
  | .cells _ t frozen => .cells #[.int .u32 0, .int .u32 498536548, .int .u32 997073096, .int .u32 651767980, .int .u32 1994146192, .int .u32 1802195444, .int .u32 1303535960, .int .u32 1342533948, .int .u32 3988292384, .int .u32 4027552580, .int .u32 3604390888, .int .u32 3412177804, .int .u32 2607071920, .int .u32 2262029012, .int .u32 2685067896, .int .u32 3183342108] t frozen
  | o => o
end Go.Proofs.YtenhaogheilmoaaDoor
