import Derived.Test.YtjepeeopjjnglabQO5
/-
  Package disk: Truncate.
-/
namespace Go.Proofs.Ytjepeeopjjnglab
open Go Go.RowKit Go.ChangeShapes
open Wb

theorem bs_take {w : World} {ao : Option Addr} {cap : Nat} {l : List Nat} (h : Bs w (.slice ao l.length cap) l) (n : Nat) (hn : n ≤ l.length) : Bs w (.slice ao n cap) (l.take n) := by
  obtain ⟨ao', cap', e, h1, h2, h3, hc⟩ := h.shape
  simp only [Value.slice.injEq] at e
  obtain ⟨rfl, _, rfl⟩ := e
  refine ⟨⟨ao, cap, by rw [List.length_take, Nat.min_eq_left hn], by rw [List.length_take]; omega, h2, h3, fun hne => ?_⟩, fun x hx => h.good x (List.mem_of_mem_take hx)⟩
  obtain ⟨b, off, e, hcell⟩ := hc (fun e => hne (by rw [e]; simp))
  refine ⟨b, off, e, fun j hj => ?_⟩
  rw [List.length_take] at hj
  rw [hcell j (by omega)]
  simp
set_option maxRecDepth 100000 in
set_option maxHeartbeats 4000000 in
theorem bclone_any (v : Value) (l : List Nat) (w : World) (h : Bs w v l) (hlen : l.length ≤ 140737488355000) :
    Calls Try.prog 38 #[v] w fun e w' => ∃ v', e = .returned v' ∧ Own w.heap.size w' v' l ∧ Below w.heap.size w w' := by
  have hin := info5
  obtain ⟨ao, cap, rfl, hl, hm, hn, hc⟩ := h.shape
  cases ao with
  | none =>
    have h0 : l = [] := List.eq_nil_of_length_eq_zero (by have := hn rfl; omega)
    subst h0
    clear h hc hl hm hn hlen
    have he : ∀ w' : World, (binOp .eql 29 (.slice none 0 cap) (.slice none 0 0)).run Try.prog w' = .ok (.bool true) w' := fun _ => rfl
    go_enter Try.func38, Try.ntmps38
    go_wp2
    go_ret
    exact ⟨_, rfl, Own.nil _ _, Below.refl _ _⟩
  | some ad =>
    have HB : Hid (∀ o, Bs (w.alloc o) (.slice (some ad) l.length cap) l) := fun o => h.alloc o
    have HO : Hid (Own w.heap.size (w.alloc (.cells #[] 5)) (.slice (some ⟨w.heap.size, 0, none⟩) 0 0) []) := Own.lit w [] ok_nil (Nat.le_refl _) (Nat.zero_le _) #[] rfl
    clear h hc hl hm hn
    have he : ∀ w' : World, (binOp .eql 29 (.slice (some ad) l.length cap) (.slice none 0 0)).run Try.prog w' = .ok (.bool false) w' := fun _ => rfl
    go_enter Try.func38, Try.ntmps38
    go_wp2_with (at_builtin; refine wpList_append _ rfl (.tmp 5) (.tmp 6) 29 rfl w.heap.size hin Try.underlying29 _ [] rfl HO.out _ l rfl (HB.out _) (by simp; omega) (by simp) ?_)
    intro v' w' ho' hb' _
    have R : Hid (Own w.heap.size w' v' l ∧ Below w.heap.size w w') := ⟨ho', ((Below.refl _ w).alloc (Nat.le_refl _) _).trans hb'⟩
    clear ho' hb'
    go_wp2
    go_ret
    exact ⟨_, rfl, R.out.1, R.out.2⟩
namespace Dk
/-- Truncate -/
def bad (S : DS) (f : Nat) (n : Int) : Bool := decide (n < 0 ∨ ((S.fo f).data.length : Int) < n)
def truE (S : DS) (s : List UInt8) (n : Int) : Int := if (findE S s).1 = 0 then (if bad S (fil S s) n = true then 65 else (cnt S).1) else (findE S s).1
def tru (S : DS) (s : List UInt8) (n : Int) : DS := if (findE S s).1 = 0 ∧ bad S (fil S s) n = false then (if (cnt S).1 = 0 then { (cnt S).2 with taken := S.taken - (((S.fo (fil S s)).data.length : Int) - n), fo := upd (cnt S).2.fo (fil S s) ⟨(S.fo (fil S s)).data.take n.toNat, min (S.fo (fil S s)).syn n.toNat⟩ } else (cnt S).2) else S
end Dk
theorem upd_upd (fo : Nat → Dk.Fl) (f : Nat) (x y : Dk.Fl) : Dk.upd (Dk.upd fo f x) f y = Dk.upd fo f y := by
  funext k
  unfold Dk.upd
  by_cases h : k = f <;> simp [h]
theorem upd_at (fo : Nat → Dk.Fl) (f : Nat) (x : Dk.Fl) : Dk.upd fo f x f = x := by
  unfold Dk.upd
  simp
set_option maxRecDepth 100000 in
set_option maxHeartbeats 8000000 in
theorem dktrunc_any (B g : Nat) (S : Dk.DS) (M : Mm) (s : ByteArray) (n : Int) (w : World) (h : DM B w g S M) (hB : B ≤ w.heap.size) (hs : s.size ≤ maxLen) (hl : S.armed = true → 0 ≤ S.left ∧ S.left ≤ 9223372036854775807) (hid : ∀ p ∈ S.nm, p.2 ∈ S.ids) (hfd : ∀ f ∈ S.ids, Own B w (M.dv f) (S.fo f).data) (hq : 0 ≤ S.taken ∧ S.taken ≤ 1000000000000) (hln : ∀ f ∈ S.ids, (S.fo f).data.length ≤ 1000000000) :
    Calls Try.prog 34 #[.pointer (some ⟨g, 0, none⟩), .string s, .int .i64 n] w fun e w' => e = .returned (.int .i64 (Dk.truE S s.data.toList n)) ∧ DPost B g S M w (Dk.tru S s.data.toList n) w' := by
  have H0 : Hid (∀ W, Below w.heap.size w W → DM B W g S M) := fun W hW => h.kept hW
  have HB : Hid (B ≤ w.heap.size) := hB
  have cF := dkfind_any B g S M s w h hs
  have HCT : Hid (∀ W, Below w.heap.size w W → Calls Try.prog 54 #[.pointer (some ⟨g, 0, none⟩)] W fun e w' => e = .returned (.int .i64 (Dk.cnt S).1) ∧ DM B w' g (Dk.cnt S).2 M ∧ IFr W w' (· = g)) := fun W hW => dkcount_any B g S M W (H0.out W hW) hl
  clear h hB hl
  rcases Dk.find_cases S s.data.toList with ⟨f, hE, hg⟩ | ⟨ae, hne, hE⟩
  · have HFE : Hid (Dk.findE S s.data.toList = (0, some f)) := hE
    have HFI : Hid (f ∈ S.ids) := hid _ (Dk.get_mem hg)
    rw [hE] at cF
    dsimp only [fpo, fp] at cF
    clear hE hg hid hs
    obtain ⟨a1, c1, hdv, hc1, hc2⟩ := Mg.row_shape (hfd f HFI.out).row
    have HDV : Hid (M.dv f = .slice a1 (S.fo f).data.length c1) := hdv
    have HQ : Hid (0 ≤ S.taken ∧ S.taken ≤ 1000000000000) := hq
    have hln2 := hln f HFI.out
    unfold maxLen at hc2
    clear hdv hq hln hfd
    by_cases hr1 : n < 0
    · have d1 : (n < 0) = True := by simp; omega
      have HE : Hid (Dk.truE S s.data.toList n = 65 ∧ Dk.tru S s.data.toList n = S) := by
        have hb : Dk.bad S (Dk.fil S s.data.toList) n = true := by
          unfold Dk.bad Dk.fil
          rw [HFE.out]
          exact decide_eq_true (.inl hr1)
        refine ⟨?_, ?_⟩
        · unfold Dk.truE
          rw [HFE.out, if_pos rfl, if_pos hb]
        · unfold Dk.tru
          rw [if_neg (fun e => by rw [hb] at e; exact absurd e.2 (by simp))]
      clear hr1 HCT
      go_enter Try.func34, Try.ntmps34
      go_wp2_with fail
      refine cF.mono ?_
      rintro e W1 ⟨rfl, b1⟩
      have HB1 : Hid (Below w.heap.size w W1) := b1
      have fb1 := (H0.out W1 b1).fb f HFI.out
      rw [HDV.out] at fb1
      have x0 := fb1.cell 0 _ rfl
      clear b1 fb1
      go_wp2_with fail
      go_returns
      refine ⟨?_, ?_⟩
      · rw [HE.out.1]
        rfl
      · rw [HE.out.2]
        exact DPost.same (H0.out w (Below.refl _ _)) HB1.out
    · have d1 : (n < 0) = False := by simp; omega
      by_cases hr2 : ((S.fo f).data.length : Int) < n
      · have d2 : (((S.fo f).data.length : Int) < n) = True := by simp; omega
        have HE : Hid (Dk.truE S s.data.toList n = 65 ∧ Dk.tru S s.data.toList n = S) := by
          have hb : Dk.bad S (Dk.fil S s.data.toList) n = true := by
            unfold Dk.bad Dk.fil
            rw [HFE.out]
            exact decide_eq_true (.inr hr2)
          refine ⟨?_, ?_⟩
          · unfold Dk.truE
            rw [HFE.out, if_pos rfl, if_pos hb]
          · unfold Dk.tru
            rw [if_neg (fun e => by rw [hb] at e; exact absurd e.2 (by simp))]
        clear hr1 hr2 HCT
        go_enter Try.func34, Try.ntmps34
        go_wp2_with fail
        refine cF.mono ?_
        rintro e W1 ⟨rfl, b1⟩
        have HB1 : Hid (Below w.heap.size w W1) := b1
        have fb1 := (H0.out W1 b1).fb f HFI.out
        rw [HDV.out] at fb1
        have x0 := fb1.cell 0 _ rfl
        clear b1 fb1
        go_wp2_with fail
        go_returns
        refine ⟨?_, ?_⟩
        · rw [HE.out.1]
          rfl
        · rw [HE.out.2]
          exact DPost.same (H0.out w (Below.refl _ _)) HB1.out
      · obtain ⟨k, rfl⟩ : ∃ k : Nat, n = (k : Int) := ⟨n.toNat, by omega⟩
        have d2 : (((S.fo f).data.length : Int) < (k : Int)) = False := by simp; omega
        have hkl : k ≤ (S.fo f).data.length := by omega
        have HNB : Hid (Dk.bad S (Dk.fil S s.data.toList) (k : Int) = false) := by
          show Dk.bad _ _ _ = false
          unfold Dk.bad Dk.fil
          rw [HFE.out]
          exact decide_eq_false (fun e => e.elim hr1 hr2)
        clear hr1 hr2
        go_enter Try.func34, Try.ntmps34
        go_wp2_with fail
        refine cF.mono ?_
        rintro e W1 ⟨rfl, b1⟩
        have HB1 : Hid (Below w.heap.size w W1) := b1
        have fb1 := (H0.out W1 b1).fb f HFI.out
        rw [HDV.out] at fb1
        have x0 := fb1.cell 0 _ rfl
        clear b1 fb1
        go_wp2_with fail
        refine (HCT.out W1 HB1.out).mono ?_
        rintro e W2 ⟨rfl, d2, f2⟩
        have HD2 : Hid (DM B W2 g (Dk.cnt S).2 M ∧ IFr w W2 (Ft g S M)) := ⟨d2, (IFr.kept HB1.out).trans f2 fun _ _ e => .inl e⟩
        clear d2 f2
        have HFC : Hid (f ∈ (Dk.cnt S).2.ids) := by rw [Dk.cnt_ids]; exact HFI.out
        by_cases hc0 : (Dk.cnt S).1 = 0
        · have HC0 : Hid ((Dk.cnt S).1 = 0) := hc0
          rw [hc0]
          clear hc0
          have hfo : (Dk.cnt S).2.fo = S.fo := Dk.cnt_fo S
          have htk : (Dk.cnt S).2.taken = S.taken := Dk.cnt_taken S
          have D2z := HD2.out.1.kept (drew_bel W2)
          have fb2 := D2z.fb f HFC.out
          rw [HDV.out, hfo] at fb2
          have x1 := D2z.box.cell 1 _ rfl
          rw [htk] at x1
          have g1 := D2z.box.free 1
          have hwa : IntKind.i64.wrap (((S.fo f).data.length : Int) - (k : Int)) = ((S.fo f).data.length : Int) - (k : Int) := IntWalk.i64_in _ (by omega)
          obtain ⟨tt, htt⟩ : ∃ tt, tt = S.taken - (((S.fo f).data.length : Int) - (k : Int)) := ⟨_, rfl⟩
          have hwb : IntKind.i64.wrap (S.taken - (((S.fo f).data.length : Int) - (k : Int))) = tt := (IntWalk.i64_in _ (by have := HQ.out; omega)).trans htt.symm
          have k3 := D2z.num 1 (.int .i64 tt) { (Dk.cnt S).2 with taken := tt } rfl rfl rfl rfl rfl rfl
          have HK3 : Hid (DM B (W2.drew.setCell ⟨g, 1, none⟩ (.int .i64 tt)) g { (Dk.cnt S).2 with taken := tt } M ∧ IFr w (W2.drew.setCell ⟨g, 1, none⟩ (.int .i64 tt)) (Ft g S M)) := ⟨k3, (HD2.out.2.trans (IFr.kept (F := Ft g S M) (drew_bel W2)) fun _ _ e => e).trans (ifr_set _ _ _ _) fun _ _ e => .inl e⟩
          obtain ⟨Wz, hWz⟩ : ∃ W, W = W2.drew := ⟨_, rfl⟩
          rw [← hWz] at fb2 x1 g1 HK3
          have hS0 := fb2.cell 0 _ rfl
          have fb3 := k3.fb f HFC.out
          rw [← hWz, HDV.out, hfo] at fb3
          have hS3 := fb3.cell 0 _ rfl
          clear k3 D2z fb2 fb3 hfo htk
          have HTX : Hid (tt = S.taken - (((S.fo f).data.length : Int) - (k : Int))) := htt
          clear htt
          go_upto_region 9 with fail
          refine wp_region_held_drew (S := fun W : World => W.cell? ⟨f, 0, none⟩ = some (.slice a1 (S.fo f).data.length c1)) (by kernel_rfl) (by rw [← hWz]; exact hS0) (fun _ => ?_)
          rw [← hWz]
          clear hWz
          refine zqk 0 rfl hS0 ?_
          simp only [Act.put, zq1, zq2, zq3, zq4, zq5]
          refine zqk 1 rfl hS0 ?_
          simp only [Act.put, zq1, zq2, zq3, zq4, zq5, zq6]
          refine zqk 2 rfl hS0 ?_
          simp only [Act.put, zq1, zq2, zq3, zq4, zq5, zq6]
          refine zqk 4 rfl hS0 ?_
          simp only [Act.put, zq1, zq2, zq3, zq4, zq5, zq6]
          refine zqk 5 rfl hS0 ?_
          simp only [Act.put, zq1, zq2, zq3, zq4, zq5, zq6]
          refine zqk 6 rfl hS0 ?_
          simp only [Act.put, zq1, zq2, zq3, zq4, zq5, zq6]
          refine zqk 7 rfl hS0 ?_
          simp only [Act.put, zq1, zq2, zq3, zq4, zq5, zq6]
          refine zqk 8 rfl hS0 ?_
          simp only [Act.put, zq1, zq2, zq3, zq4, zq5, zq6]
          refine zqk 9 rfl hS0 ?_
          simp only [Act.put, zq1, zq2, zq3, zq4, zq5, zq6]
          refine zqk 10 rfl hS0 ?_
          simp only [Act.put, zq1, zq2, zq3, zq4, zq5, zq6]
          refine zqr 3 rfl (fun K hK => ?_)
          go_simp
          refine hK.out _ _ hS0 fun _ => ?_
          try simp only [Act.put, zq1, zq2, zq3, zq4, zq5, zq6]
          clear hK K
          refine zqk 11 rfl hS0 ?_
          simp only [Act.put, zq1, zq2, zq3, zq4, zq5, zq6]
          refine zqk 12 rfl hS0 ?_
          simp only [Act.put, zq1, zq2, zq3, zq4, zq5, zq6]
          refine zqk 13 rfl hS0 ?_
          simp only [Act.put, zq1, zq2, zq3, zq4, zq5, zq6]
          refine zqr 14 rfl (fun K hK => ?_)
          go_simp
          refine hK.out _ _ hS3 fun _ => ?_
          try simp only [Act.put, zq1, zq2, zq3, zq4, zq5, zq6]
          clear hK K
          refine wpAnyH_done (by kernel_rfl) ?_ _
          obtain ⟨W3, hW3⟩ : ∃ W, W = Wz.setCell ⟨g, 1, none⟩ (.int .i64 tt) := ⟨_, rfl⟩
          rw [← hW3] at hS3 HK3 ⊢
          clear hW3 hS0 x1 g1
          have hkc : ((k : Int) ≤ (c1 : Int)) = True := by simp; omega
          have HO3 : Hid (Own B W3 (.slice a1 (S.fo f).data.length c1) (S.fo f).data) := by
            have h9 := HK3.out.1.fd f HFC.out
            rw [HDV.out] at h9
            simp only [Dk.cnt_fo] at h9
            exact h9
          have HCL : Hid (Calls Try.prog 38 #[.slice a1 k c1] W3 fun e w' => ∃ v', e = .returned v' ∧ Own W3.heap.size w' v' ((S.fo f).data.take k) ∧ Below W3.heap.size W3 w') := bclone_any _ _ W3 (bs_take HO3.out.bs k hkl) (by rw [List.length_take]; omega)
          go_wp2_with fail
          refine HCL.out.mono ?_
          rintro e W4 ⟨v4, rfl, o4, b4⟩
          obtain ⟨a4, k4, c4, hv4⟩ : ∃ (x : Option Addr) (y z : Nat), v4 = .slice x y z := by
            obtain ⟨x, z, e, -⟩ := Mg.row_shape o4.row
            exact ⟨x, _, z, e⟩
          subst hv4
          have fb4 := (HK3.out.1.fb f HFC.out).kept b4
          simp only [Dk.cnt_fo] at fb4
          rw [HDV.out] at fb4
          have y0 := fb4.cell 0 _ rfl
          have g0 := fb4.free 0
          have k5 := HK3.out.1.dat HFC.out (W := W4) (IFr.kept b4) (o4.mono (Nat.le_trans HB.out HK3.out.2.size)) (fun q e => .inr (World.ownsRow.lt o4.row q e).1)
          simp only [Dk.cnt_fo] at k5
          have HM5a : Hid (DM B (W4.setCell ⟨f, 0, none⟩ (.slice a4 k4 c4)) g { (Dk.cnt S).2 with taken := tt, fo := Dk.upd S.fo f ⟨(S.fo f).data.take k, (S.fo f).syn⟩ } { M with dv := fun q => if q = f then .slice a4 k4 c4 else M.dv q } ∧ IFr w (W4.setCell ⟨f, 0, none⟩ (.slice a4 k4 c4)) (Ft g S M) ∧ ∀ q, Ft g { (Dk.cnt S).2 with taken := tt, fo := Dk.upd S.fo f ⟨(S.fo f).data.take k, (S.fo f).syn⟩ } { M with dv := fun q => if q = f then .slice a4 k4 c4 else M.dv q } q → Ft g S M q ∨ w.heap.size ≤ q) := ⟨k5.1, HK3.out.2.trans k5.2.1 fun _ _ e => ft_cnt (S := S) e, fun q hq => by
            rcases k5.2.2 q hq with e | e
            · exact .inl (ft_cnt (S := S) e)
            · exact .inr (Nat.le_trans HK3.out.2.size e)⟩
          have HL5a : Hid (LB (W4.setCell ⟨f, 0, none⟩ (.slice a4 k4 c4)) f 85 [.slice a4 k4 c4, .int .i64 ((S.fo f).syn : Int)]) := fb4.set 0 _
          clear k5 fb4 o4 b4 HCL
          go_upto_region 11 with fail
          obtain ⟨W5, hW5⟩ : ∃ W, W = W4.setCell ⟨f, 0, none⟩ (.slice a4 k4 c4) := ⟨_, rfl⟩
          rw [← hW5] at HM5a HL5a ⊢
          have HM5 := HM5a
          have HL5 := HL5a
          clear hW5 HM5a HL5a y0 g0 hS3
          by_cases hsk : k < (S.fo f).syn
          · have d3 : ((k : Int) < ((S.fo f).syn : Int)) = True := by simp; omega
            have HSK : Hid (k < (S.fo f).syn) := hsk
            clear hsk
            have k9 := (HM5.out.1.syn HFC.out k)
            have y1 := HL5.out.cell 1 _ rfl
            have f1 := HL5.out.free 1
            have HFIN : Hid (DPost B g S M w (Dk.tru S s.data.toList (k : Int)) (W5.setCell ⟨f, 1, none⟩ (.int .i64 ((k : Nat) : Int)))) := by
              have e9 : Dk.tru S s.data.toList (k : Int) = { (Dk.cnt S).2 with taken := tt, fo := Dk.upd S.fo f ⟨(S.fo f).data.take k, k⟩ } := by
                have hm : min (S.fo f).syn k = k := by have := HSK.out; omega
                unfold Dk.tru
                rw [if_pos ⟨by rw [HFE.out], HNB.out⟩, if_pos HC0.out]
                unfold Dk.fil
                rw [HFE.out]
                simp only [Option.getD_some, Int.toNat_natCast, hm, HTX.out, Dk.cnt_fo]
              rw [e9]
              refine ⟨_, ?_, HM5.out.2.1.trans k9.2 fun q hq e => (HM5.out.2.2 q e).resolve_right (by omega), fun q hq => HM5.out.2.2 q hq⟩
              have h9 := k9.1
              simp only [upd_at, upd_upd] at h9
              exact h9
            have HE : Hid (Dk.truE S s.data.toList (k : Int) = 0) := by
              show Dk.truE _ _ _ = 0
              unfold Dk.truE
              rw [HFE.out, if_pos rfl, if_neg (by rw [HNB.out]; simp)]
              exact HC0.out
            clear k9
            generalize (S.fo f).syn = sy at *
            go_wp2_with fail
            go_returns
            rw [HE.out]
            exact ⟨rfl, HFIN.out⟩
          · have d3 : ((k : Int) < ((S.fo f).syn : Int)) = False := by simp; omega
            have HSK : Hid ((S.fo f).syn ≤ k) := by show (S.fo f).syn ≤ k; omega
            clear hsk
            have k9 := (HM5.out.1.syn HFC.out (S.fo f).syn)
            have y1 := HL5.out.cell 1 _ rfl
            have f1 := HL5.out.free 1
            have HFIN : Hid (DPost B g S M w (Dk.tru S s.data.toList (k : Int)) (W5.setCell ⟨f, 1, none⟩ (.int .i64 (((S.fo f).syn : Nat) : Int)))) := by
              have e9 : Dk.tru S s.data.toList (k : Int) = { (Dk.cnt S).2 with taken := tt, fo := Dk.upd S.fo f ⟨(S.fo f).data.take k, (S.fo f).syn⟩ } := by
                have hm : min (S.fo f).syn k = (S.fo f).syn := by have := HSK.out; omega
                unfold Dk.tru
                rw [if_pos ⟨by rw [HFE.out], HNB.out⟩, if_pos HC0.out]
                unfold Dk.fil
                rw [HFE.out]
                simp only [Option.getD_some, Int.toNat_natCast, hm, HTX.out, Dk.cnt_fo]
              rw [e9]
              refine ⟨_, ?_, HM5.out.2.1.trans k9.2 fun q hq e => (HM5.out.2.2 q e).resolve_right (by omega), fun q hq => HM5.out.2.2 q hq⟩
              have h9 := k9.1
              simp only [upd_at, upd_upd] at h9
              exact h9
            have HE : Hid (Dk.truE S s.data.toList (k : Int) = 0) := by
              show Dk.truE _ _ _ = 0
              unfold Dk.truE
              rw [HFE.out, if_pos rfl, if_neg (by rw [HNB.out]; simp)]
              exact HC0.out
            clear k9
            generalize (S.fo f).syn = sy at *
            go_wp2_with fail
            go_returns
            rw [HE.out]
            exact ⟨rfl, HFIN.out⟩
        · obtain ⟨ce, hce⟩ : ∃ ce, ce = (Dk.cnt S).1 := ⟨_, rfl⟩
          have HE : Hid (Dk.truE S s.data.toList (k : Int) = ce ∧ Dk.tru S s.data.toList (k : Int) = (Dk.cnt S).2) := by
            refine ⟨?_, ?_⟩
            · unfold Dk.truE
              rw [HFE.out, if_pos rfl, if_neg (by rw [HNB.out]; simp), hce]
            · unfold Dk.tru
              rw [if_pos ⟨by rw [HFE.out], HNB.out⟩, if_neg hc0]
          rw [← hce] at hc0 ⊢
          have hd : (ce != 0) = true := by simp only [bne_iff_ne, ne_eq]; exact hc0
          clear hc0 hce
          go_wp2_with fail
          go_returns
          refine ⟨?_, ?_⟩
          · rw [HE.out.1]
            rfl
          · rw [HE.out.2]
            exact DPost.cnt HD2.out.2 HD2.out.1
  · have HE : Hid (Dk.truE S s.data.toList n = ae ∧ Dk.tru S s.data.toList n = S) := by
      refine ⟨?_, ?_⟩
      · unfold Dk.truE
        rw [hE, if_neg hne]
      · unfold Dk.tru
        rw [if_neg (fun e => hne (by have h9 := e.1; rw [hE] at h9; exact h9))]
    rw [hE] at cF
    dsimp only [fpo] at cF
    have hd : (ae != 0) = true := by simp only [bne_iff_ne, ne_eq]; exact hne
    clear hE hne hid hs HCT hfd hq hln
    go_enter Try.func34, Try.ntmps34
    go_wp2_with fail
    refine cF.mono ?_
    rintro e W1 ⟨rfl, b1⟩
    have HB1 : Hid (Below w.heap.size w W1) := b1
    clear b1
    go_wp2_with fail
    go_returns
    refine ⟨?_, ?_⟩
    · rw [HE.out.1]
      rfl
    · rw [HE.out.2]
      exact DPost.same (H0.out w (Below.refl _ _)) HB1.out
end Go.Proofs.Ytjepeeopjjnglab
