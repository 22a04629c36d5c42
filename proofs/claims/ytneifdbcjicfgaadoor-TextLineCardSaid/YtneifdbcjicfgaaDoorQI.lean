import Derived.Test.YtneifdbcjicfgaaDoorQG
/-
  Package text: Words, the walk.
-/
namespace Go.Proofs.YtneifdbcjicfgaaDoor
open Go Go.RowKit
open Tx

/-- what Words answers -/
def Tx.wdA (s : ByteArray) : List Wd × Int × Int := if 65536 < s.size then ([], 2, 65536) else wds s 0
/-- the package's variables that Words reads -/
structure WTab (w : World) : Prop where
  lets : TabP 0 .i32 lets w
  hids : TabP 2 .i32 hids w
  db : w.cell? ⟨9, 15, none⟩ = some (.int .u8 4)
  nt : NTab w
theorem WTab.kept {w w' : World} (h : WTab w) (hb : Below w.heap.size w w') : WTab w' := ⟨h.lets.kept hb, h.hids.kept hb, by rw [← h.db]; exact World.cell?_of_block (hb.block _ (cell_lt h.db)), h.nt.kept hb⟩
/-- where the walk stands: the iterator at p, the last word's end e and kind k -/
def Stg (s : ByteArray) (A : List Wd × Int × Int) (acc : List Wd) (p e : Nat) (k : Int) : Prop :=
  (p ≤ e ∧ e ≤ s.size ∧ (∃ m, offs s m p = e) ∧ fin acc (bhd s k e) = A) ∨ (e < p ∧ fin acc (wds s p) = A)
set_option maxRecDepth 100000 in
set_option maxHeartbeats 8000000 in
theorem words_any (s : ByteArray) (w : World) (hT : WTab w) :
    Calls Tryd.prog 9 #[.string s] w fun e w' => ∃ v, e = .returned (.tuple #[v, .int .i64 (wdA s).2.1, .int .i64 (wdA s).2.2]) ∧ WdR w.heap.size w' v (wdA s).1 ∧ Below w.heap.size w w' := by
  by_cases h6 : 65536 < s.size
  · have HA : Hid (wdA s = ([], 2, 65536)) := by
      show _ = _
      unfold wdA
      rw [if_pos h6]
    rw [HA.out]
    clear HA hT
    go_enter Tryd.func9, Tryd.ntmps9
    go_wp2
    go_ret3
    exact ⟨_, rfl, WdR.nil _ _, Below.refl _ _⟩
  · obtain ⟨A, hA⟩ : ∃ A, wdA s = A := ⟨_, rfl⟩
    have HA : Hid (fin [] (bhd s 4 0) = A) := by
      show _ = _
      rw [← hA]
      unfold wdA bhd
      rw [if_neg h6, if_neg (by simp), fin_nil]
    rw [hA]
    clear hA
    have HTB : Hid (∀ w', Below w.heap.size w w' → WTab w') := fun w' hb => hT.kept hb
    have HI : Hid ((w.iter s 0).heap[w.heap.size]? = some (.stringIter s 0)) := World.iter_heap w s 0
    have HB : Hid (Below w.heap.size w (w.iter s 0)) := up_iter w s 0
    clear hT
    go_enter Tryd.func9, Tryd.ntmps9
    go_wp2
    go_loopw [5, 6, 7] (fun vw ve vk wr => ∃ (p e : Nat) (k : Int) (acc : List Wd), ve = .int .i64 (e : Int) ∧ vk = .int .i64 k ∧ p ≤ s.size ∧ e ≤ s.size ∧ acc.length ≤ p ∧ WdR (w.heap.size + 1) wr vw acc ∧ Stg s A acc p e k ∧ wr.heap[w.heap.size]? = some (.stringIter s p) ∧ Below w.heap.size w wr) (fun _ _ _ wr => s.size - wr.iterPos w.heap.size)
    case atStart => exact ⟨0, 0, 4, [], rfl, rfl, Nat.zero_le _, Nat.zero_le _, Nat.le_refl _, WdR.nil _ _, .inl ⟨Nat.le_refl _, Nat.zero_le _, ⟨0, rfl⟩, HA.out⟩, HI.out, HB.out⟩
    case round =>
      obtain ⟨p, e, k, acc, rfl, rfl, hp, he, hal, hr, hst, hit, hbel⟩ := hrel
      have HPOS : Hid (wr.iterPos w.heap.size = p) := iter_pos hit
      clear HA HI HB
      obtain ⟨aw, cw, ew⟩ := hr.shape
      subst ew
      by_cases hlt : p < s.size
      · have hd := decode_fits s p hlt
        have hnx : ∀ ty, (Instr.next (.pointer (some ⟨w.heap.size, 0, none⟩)) true ty).run Tryd.prog wr = _ := fun ty => run_next_at wr w.heap.size s p ty hit hlt
        have HI2 : Hid ((setIter wr w.heap.size s (p + (Utf8.decode s p).2)).heap[w.heap.size]? = some (.stringIter s (p + (Utf8.decode s p).2))) := iter_at wr w.heap.size s _ _ hit
        have hB2 : Below w.heap.size w (setIter wr w.heap.size s (p + (Utf8.decode s p).2)) := below_iter hbel _ (Nat.le_refl _) s _
        have HR2 : Hid (WdR (w.heap.size + 1) (setIter wr w.heap.size s (p + (Utf8.decode s p).2)) (.slice aw acc.length cw) acc) := hr.iter (Nat.lt_succ_self _) s _
        have hrl := decode_le s p
        have hrv := dec_valid s p
        have hrb := rune_blk s p
        clear hbel hit hr
        generalize setIter wr w.heap.size s (p + (Utf8.decode s p).2) = w2 at *
        have HWD : Hid (∀ w', Below w.heap.size w w' → Calls Tryd.prog 30 #[.string s, .int .i64 (p : Int), .int .i32 ((Utf8.decode s p).1 : Int)] w' fun e w'' => e = .returned (wans (wordP s p)) ∧ Below w'.heap.size w' w'') := fun w' hb => word_any s p w' hlt (by omega) (HTB.out _ hb).lets (HTB.out _ hb).hids (HTB.out _ hb).db (HTB.out _ hb).nt
        have HOD : Hid (∀ w', Calls Tryd.prog 28 #[.string s, .int .i64 (p : Int), .int .i32 ((Utf8.decode s p).1 : Int)] w' fun e w'' => e = .returned (.int .i64 (if stray s p = true then 21 else 22)) ∧ w'' = w') := fun w' => odd_any s p w' hlt
        have HPT : Hid (∀ w', Calls Tryd.prog 27 #[.int .i32 ((Utf8.decode s p).1 : Int)] w' fun e w'' => e = .returned (.bool (blk (at' s p) || sgn (at' s p))) ∧ Below w'.heap.size w' w'') := fun w' => by
          have h9 := parts_any (Utf8.decode s p).1 w' hrv
          rw [hrb.1, hrb.2.1] at h9
          exact h9
        have HBK : Hid (∀ w', Calls Tryd.prog 29 #[.int .i32 ((Utf8.decode s p).1 : Int)] w' fun e w'' => e = .returned (.bool (blk (at' s p))) ∧ Below w'.heap.size w' w'') := fun w' => by
          have h9 := blank_any (Utf8.decode s p).1 w'
          rw [hrb.1] at h9
          exact h9
        have h35 : (Utf8.decode s p).1 = 35 ↔ at' s p = 35 := hrb.2.2
        have HB1 : Hid (blk (at' s p) = true → (Utf8.decode s p).2 = 1) := fun h => by
          have h9 : at' s p < 128 := by
            unfold blk at h
            simp at h
            omega
          rw [dec_asc s p h9]
        clear hrv hrb
        obtain ⟨r, hr⟩ : ∃ r : Nat, (Utf8.decode s p).1 = r := ⟨_, rfl⟩
        rw [hr] at hnx HWD HOD HPT HBK hrl h35
        clear hr
        by_cases hpe : p < e
        · have HS : Hid (Stg s A acc (p + (Utf8.decode s p).2) e k) := by
            rcases hst with ⟨h1, h2, h3, h4⟩ | ⟨h1, _⟩
            · have h9 := offs_next s p e hlt hpe h3
              exact .inl ⟨h9.1, h2, h9.2, h4⟩
            · omega
          clear hst HWD HOD HPT HBK h35 HB1
          generalize (Utf8.decode s p).2 = wd at *
          go_wp2
          go_roundw
          case rel => exact ⟨p + wd, e, k, acc, rfl, rfl, by omega, he, by omega, HR2.out, HS.out, HI2.out, hB2⟩
          case measure => rw [iter_pos HI2.out, HPOS.out]; omega
        · by_cases hr35 : r = 35
          · have HF : Hid (A = (acc, 0, 0)) := by
              have ha := h35.1 hr35
              have hw := wds_hash s p hlt ha
              show A = _
              rcases hst with ⟨h1, h2, h3, h4⟩ | ⟨h1, h4⟩
              · obtain rfl : p = e := by omega
                rw [← h4]
                unfold bhd
                rw [if_neg (by simp [ha]), hw]
                unfold fin
                simp
              · rw [← h4, hw]
                unfold fin
                simp
            subst hr35
            clear hst HWD HOD HPT HBK h35 HB1
            go_wp2
            go_ret3
            rw [HF.out]
            exact ⟨_, rfl, HR2.out.weak (by omega), hB2⟩
          · have ha35 : ¬ at' s p = 35 := fun e => hr35 (h35.2 e)
            have hr35' : ((r : Int) == 35) = false := by simp; omega
            clear h35
            go_upto_region 10 with fail
            have HBD : Hid (¬ (p = e ∧ k ≠ 4 ∧ blk (at' s p) = false ∧ sgn (at' s p) = false) → fin acc (wds s p) = A) := fun hb => by
              rcases hst with ⟨h1, h2, h3, h4⟩ | ⟨h1, h4⟩
              · obtain rfl : p = e := by omega
                rw [← h4]
                unfold bhd
                rw [if_neg (fun h => hb ⟨rfl, h.1, h.2.2.2.1, h.2.2.2.2⟩)]
              · exact h4
            have HBE : Hid ((p = e ∧ k ≠ 4 ∧ blk (at' s p) = false ∧ sgn (at' s p) = false) → A = ([], if stray s p = true then 21 else 22, (p : Int))) := fun hb => by
              rcases hst with ⟨h1, h2, h3, h4⟩ | ⟨h1, h4⟩
              · obtain rfl : p = e := by omega
                have her : ¬ (if stray s p = true then (21 : Int) else 22) = 0 := by split <;> decide
                rw [← h4, bhd_err s k p ⟨hb.2.1, hlt, ha35, hb.2.2.1, hb.2.2.2⟩]
                unfold fin
                simp only
                generalize (if stray s p = true then (21 : Int) else 22) = er at *
                rw [if_neg her]
              · omega
            clear hst
            go_cut [38] from 18 to 64 (fun c wx => c = .bool (decide (p = e ∧ k ≠ 4 ∧ blk (at' s p) = false ∧ sgn (at' s p) = false)) ∧ WdR (w.heap.size + 1) wx (.slice aw acc.length cw) acc ∧ wx.heap[w.heap.size]? = some (.stringIter s (p + (Utf8.decode s p).2)) ∧ Below w.heap.size w wx)
            case first =>
              by_cases hq : p = e
              · subst hq
                by_cases h4 : k = 4
                · subst h4
                  go_wp2_with fail
                  go_meet
                  exact ⟨congrArg Value.bool (decide_eq_false (by simp)).symm, HR2.out, HI2.out, hB2⟩
                · have b4 : (k != 4) = true := by simp [h4]
                  go_wp2_with fail
                  refine (HPT.out _).mono ?_
                  rintro e w3 ⟨rfl, b3⟩
                  go_wp2_with fail
                  go_meet
                  refine ⟨congrArg Value.bool ?_, HR2.out.kept b3, ?_, andThen hB2 b3⟩
                  · cases hb : blk (at' s p) <;> cases hg : sgn (at' s p) <;> simp [h4]
                  · rw [b3.block w.heap.size (Array.getElem?_eq_some_iff.1 HI2.out).1]
                    exact HI2.out
              · have b1 : ((p : Int) == (e : Int)) = false := by simp; omega
                go_wp2_with fail
                go_meet
                exact ⟨congrArg Value.bool (decide_eq_false (fun h => hq h.1)).symm, HR2.out, HI2.out, hB2⟩
            case rest =>
              obtain ⟨rfl, hr3, hi3, hb3⟩ := hcut
              clear HR2 HI2 hB2 HPT
              generalize wc = w3 at *
              have HR3 : Hid (WdR (w.heap.size + 1) w3 (.slice aw acc.length cw) acc) := hr3
              have HI3 : Hid (w3.heap[w.heap.size]? = some (.stringIter s (p + (Utf8.decode s p).2))) := hi3
              clear hr3 hi3
              by_cases hbad : p = e ∧ k ≠ 4 ∧ blk (at' s p) = false ∧ sgn (at' s p) = false
              · have HF : Hid (A = ([], if stray s p = true then 21 else 22, (p : Int))) := HBE.out hbad
                have dbad : decide (p = e ∧ k ≠ 4 ∧ blk (at' s p) = false ∧ sgn (at' s p) = false) = true := decide_eq_true hbad
                rw [dbad]
                clear HBE HBD hbad dbad HWD HBK HB1
                generalize (if stray s p = true then (21 : Int) else 22) = er at *
                go_wp2_with fail
                refine (HOD.out _).mono ?_
                rintro e w4 ⟨rfl, rfl⟩
                go_wp2
                go_ret3
                rw [HF.out]
                exact ⟨_, rfl, WdR.nil _ _, hb3⟩
              · have HG : Hid (fin acc (wds s p) = A) := HBD.out hbad
                have dbad : decide (p = e ∧ k ≠ 4 ∧ blk (at' s p) = false ∧ sgn (at' s p) = false) = false := decide_eq_false hbad
                rw [dbad]
                clear HBE HBD hbad dbad HOD
                cases hbk : blk (at' s p) with
                | true =>
                  rw [hbk] at HBK
                  have hw1 := HB1.out hbk
                  have HS : Hid (Stg s A acc (p + 1) e k) := .inr ⟨by omega, by rw [← wds_blank s p hlt ha35 hbk]; exact HG.out⟩
                  rw [hw1] at HI3 hd
                  clear hw1 HB1 HWD HG hbk
                  go_wp2_with fail
                  refine (HBK.out _).mono ?_
                  rintro e w4 ⟨rfl, b4⟩
                  have HX : Hid (WdR (w.heap.size + 1) w4 (.slice aw acc.length cw) acc ∧ w4.heap[w.heap.size]? = some (.stringIter s (p + 1)) ∧ Below w.heap.size w w4) := ⟨HR3.out.kept b4, by
                    rw [b4.block w.heap.size (Array.getElem?_eq_some_iff.1 HI3.out).1]
                    exact HI3.out, andThen hb3 b4⟩
                  clear b4 hb3 HR3 HI3 HBK
                  go_wp2
                  go_roundw
                  case rel => exact ⟨p + 1, e, k, acc, rfl, rfl, by omega, he, by omega, HX.out.1, HS.out, HX.out.2.1, HX.out.2.2⟩
                  case measure => rw [iter_pos HX.out.2.1, HPOS.out]; omega
                | false =>
                  rw [hbk] at HBK
                  have HWR : Hid (∀ d en, wordP s p = .inl (d, en) → p < en ∧ en ≤ s.size ∧ Stg s A (acc ++ [d]) (p + (Utf8.decode s p).2) en d.k) := fun d en h => by
                    have h9 := word_end s p hlt d en h
                    have h8 := offs_next s p en hlt h9.1 h9.2.2
                    refine ⟨h9.1, h9.2.1, .inl ⟨h8.1, h9.2.1, h8.2, ?_⟩⟩
                    rw [← HG.out, wds_word s p hlt ha35 hbk d en h, fin_fin]
                  have HWE : Hid (∀ er pl, wordP s p = .inr (er, pl) → A = ([], er, pl) ∧ er ≠ 0) := fun er pl h => by
                    have h9 := wordP_err s p _ h
                    refine ⟨?_, h9⟩
                    rw [← HG.out, wds_bad s p hlt ha35 hbk _ h]
                    unfold fin
                    rw [if_neg h9]
                  clear HG HB1 hbk
                  go_wp2_with fail
                  refine (HBK.out _).mono ?_
                  rintro e w4 ⟨rfl, b4⟩
                  have HX : Hid (WdR (w.heap.size + 1) w4 (.slice aw acc.length cw) acc ∧ w4.heap[w.heap.size]? = some (.stringIter s (p + (Utf8.decode s p).2)) ∧ Below w.heap.size w w4) := ⟨HR3.out.kept b4, by
                    rw [b4.block w.heap.size (Array.getElem?_eq_some_iff.1 HI3.out).1]
                    exact HI3.out, andThen hb3 b4⟩
                  clear b4 hb3 HR3 HI3 HBK
                  generalize (Utf8.decode s p).2 = wd at *
                  cases hwp : wordP s p with
                  | inr ep =>
                    obtain ⟨er, pl⟩ := ep
                    rw [hwp] at HWD
                    obtain ⟨hAe, hne⟩ := HWE.out er pl hwp
                    have HF : Hid (A = ([], er, pl)) := hAe
                    have hne' : (er != 0) = true := by simp [hne]
                    unfold wans wdv zeroW at HWD
                    simp only at HWD
                    clear hAe HWE HWR hwp
                    go_wp2_with fail
                    refine (HWD.out _ HX.out.2.2).mono ?_
                    rintro e w5 ⟨rfl, b5⟩
                    have HB5 : Hid (∀ o, Below w.heap.size w (w5.alloc o)) := fun o => up (andThen HX.out.2.2 b5) o
                    clear b5 HX HWD
                    go_wp2
                    go_ret3
                    rw [HF.out]
                    exact ⟨_, rfl, WdR.nil _ _, HB5.out _⟩
                  | inl de =>
                    obtain ⟨d, en⟩ := de
                    rw [hwp] at HWD
                    obtain ⟨hen1, hen2, hst2⟩ := HWR.out d en hwp
                    have HS : Hid (Stg s A (acc ++ [d]) (p + wd) en d.k) := hst2
                    unfold wans wdv at HWD
                    simp only at HWD
                    clear hst2 HWE HWR hwp
                    go_wp2_with fail
                    refine (HWD.out _ HX.out.2.2).mono ?_
                    rintro e w5 ⟨rfl, b5⟩
                    have HY : Hid (WdR (w.heap.size + 1) w5 (.slice aw acc.length cw) acc ∧ w5.heap[w.heap.size]? = some (.stringIter s (p + wd)) ∧ Below w.heap.size w w5) := ⟨HX.out.1.kept b5, by
                      rw [b5.block w.heap.size (Array.getElem?_eq_some_iff.1 HX.out.2.1).1]
                      exact HX.out.2.1, andThen HX.out.2.2 b5⟩
                    clear b5 HX HWD
                    go_upto_region 16 with fail
                    obtain ⟨WX, hWX⟩ : ∃ WX, WX = w5.alloc (.cells #[.int .i64 d.k, .int .i64 d.at_, .string d.t, .int .i64 d.n] 24) := ⟨_, rfl⟩
                    have hx0 : Wx WX w5.heap.size d := by rw [hWX]; exact wx_new w5 d 24
                    have hx1 : WdR (w.heap.size + 1) WX (.slice aw acc.length cw) acc := by rw [hWX]; exact HY.out.1.kept (up0 _ _)
                    have hi5 := (Array.getElem?_eq_some_iff.1 HY.out.2.1).1
                    have hx2 : WX.heap[w.heap.size]? = some (.stringIter s (p + wd)) := by
                      rw [hWX, (up0 w5 _).block w.heap.size hi5]
                      exact HY.out.2.1
                    have hx3 : Below w.heap.size w WX := by rw [hWX]; exact up HY.out.2.2 _
                    have hx4 : ∀ q, (Value.slice aw acc.length cw).ownBlock = some q → q < w5.heap.size := fun q hq => (World.ownsRow.lt HY.out.1 q hq).2
                    have hx5 : WX.heap.size = w5.heap.size + 1 := by rw [hWX, heapW]
                    rw [← hWX]
                    obtain ⟨gX, hgX⟩ : ∃ gX, gX = w5.heap.size := ⟨_, rfl⟩
                    rw [← hgX] at hx0 hx4 hx5 hi5 ⊢
                    have HZ : Hid (∀ o, WdR (w.heap.size + 1) (WX.alloc o) (.slice aw acc.length cw) acc ∧ w.heap.size + 1 ≤ (WX.alloc o).heap.size ∧ (WX.alloc o).heap[w.heap.size]? = some (.stringIter s (p + wd)) ∧ Below w.heap.size w (WX.alloc o) ∧ Wx (WX.alloc o) gX d ∧ gX < (WX.alloc o).heap.size) := fun o => by
                      refine ⟨hx1.kept (up0 _ _), ?_, ?_, up hx3 o, hx0.block ((up0 WX o).block gX (by omega)), ?_⟩
                      · rw [heapW]; omega
                      · rw [(up0 WX o).block w.heap.size (by omega)]
                        exact hx2
                      · rw [heapW]; omega
                    have HCC : Hid (∀ t j u, (wdc d)[j]? = some u → (WX.alloc (.cells #[.int .i64 d.k, .int .i64 d.at_, .string d.t, .int .i64 d.n] t)).cell? ⟨WX.heap.size, j, none⟩ = some u) := fun t j u hj => by
                      rw [World.cell?_alloc_new]
                      simpa [wdc] using hj
                    have HOB : Hid (∀ q, (Value.slice aw acc.length cw).ownBlock = some q → q < gX) := hx4
                    obtain ⟨q0, q1, q2, q3⟩ := hx0.cells
                    clear hWX hgX hx0 hx1 hx2 hx3 hx4 hx5 hi5 HY
                    go_wp2_with (at_builtin; refine wpList_append_wd _ rfl (.tmp 58) (.tmp 60) 25 rfl (w.heap.size + 1) infoWd Tryd.underlying25 _ acc d rfl (HZ.out _).1 _ rfl (HCC.out _) (by omega) (HZ.out _).2.1 ?_)
                    intro v6 w6 hr6 hb6 hg6
                    have hz := HZ.out (.cells #[.int .i64 d.k, .int .i64 d.at_, .string d.t, .int .i64 d.n] 24)
                    have hx6 : Wx w6 gX d := hz.2.2.2.2.1.block (hg6.block gX hz.2.2.2.2.2 (fun e => by have := HOB.out gX e.symm; omega))
                    have HN : Hid (∀ n, WdR (w.heap.size + 1) (w6.drewN n) v6 (acc ++ [d]) ∧ (w6.drewN n).heap[w.heap.size]? = some (.stringIter s (p + wd)) ∧ Below w.heap.size w (w6.drewN n)) := fun n => by
                      have hb : Below w6.heap.size w6 (w6.drewN n) := below_drewN (Below.refl _ _) n
                      have hi6 : w6.heap[w.heap.size]? = some (.stringIter s (p + wd)) := (hb6.block w.heap.size (Nat.lt_succ_self _)).trans hz.2.2.1
                      have hl6 := (Array.getElem?_eq_some_iff.1 hi6).1
                      refine ⟨hr6.kept hb, (hb.block _ hl6).trans hi6, ?_⟩
                      exact (hz.2.2.2.1.trans (hb6.mono (Nat.le_succ _))).trans (hb.mono (by omega))
                    obtain ⟨y0, _, _, _⟩ := hx6.cells
                    clear hr6 hb6 hg6 hz hx6 HZ HCC HOB q0 q1 q2 q3
                    go_wp2
                    go_quiet (fail)
                    go_wp2
                    go_roundw
                    case rel => exact ⟨p + wd, en, d.k, acc ++ [d], rfl, rfl, by omega, hen2, by rw [List.length_append]; simp; omega, (HN.out _).1, HS.out, (HN.out _).2.1, (HN.out _).2.2⟩
                    case measure => rw [iter_pos (HN.out _).2.1, HPOS.out]; omega
      · have hnx : ∀ ty, (Instr.next (.pointer (some ⟨w.heap.size, 0, none⟩)) true ty).run Tryd.prog wr = _ := fun ty => run_next_over wr w.heap.size s p ty hit hlt
        have HF : Hid (A = (acc, 0, 0)) := by
          show A = _
          rcases hst with ⟨h1, h2, h3, h4⟩ | ⟨h1, h4⟩
          · rw [← h4]
            unfold bhd
            rw [if_neg (by omega), wds_out s e (by omega)]
            unfold fin
            simp
          · rw [← h4, wds_out s p hlt]
            unfold fin
            simp
        have HR : Hid (WdR (w.heap.size + 1) wr (.slice aw acc.length cw) acc) := hr
        clear hit hst hr
        go_wp2
        go_ret3
        rw [HF.out]
        exact ⟨_, rfl, HR.out.weak (by omega), hbel⟩
end Go.Proofs.YtneifdbcjicfgaaDoor
