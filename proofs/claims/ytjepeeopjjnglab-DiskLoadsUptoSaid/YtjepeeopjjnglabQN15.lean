import Derived.Test.YtjepeeopjjnglabQN14
/-
  The document's disk: with, changed.
-/
namespace Go.Proofs.Ytjepeeopjjnglab
open Go Go.RowKit Go.ChangeShapes
open Wb
open Rd
set_option maxRecDepth 100000 in
set_option maxHeartbeats 8000000 in
theorem rkwith_any (ok : Nat → Prop) (v : Value) (l : Dk.Nm) (s : List UInt8) (f : Nat) (w : World) (h : En ok w v l) (hl : l.length ≤ 400000000) :
    Calls Try.prog 84 #[v, .string ⟨s.toArray⟩, .int .i64 (f : Int)] w fun e w' => ∃ v', e = .returned v' ∧ En (w.heap.size ≤ ·) w' v' (Dk.put l s f) ∧ Below w.heap.size w w' := by
  have HC : Hid (Calls Try.prog 92 #[v, .string ⟨s.toArray⟩] w fun e w' => ∃ v', e = .returned v' ∧ En (w.heap.size ≤ ·) w' v' (Dk.del l s) ∧ Below w.heap.size w w') := rkwithout_any ok v l s w h (by omega)
  obtain ⟨rest, hrest⟩ : ∃ r, r = Dk.del l s := ⟨_, rfl⟩
  have HLN : Hid (rest.length ≤ 400000000) := by
    show rest.length ≤ _
    rw [hrest]
    have := Dk.len_del l s
    omega
  have HNE : Hid (∀ p ∈ rest, p.1 ≠ s) := fun p hp => by
    rw [hrest] at hp
    exact (Dk.mem_del.1 hp).2
  have HRS : Hid (rest = Dk.del l s) := hrest
  rw [← hrest] at HC
  clear h hrest hl
  go_enter Try.func84, Try.ntmps84
  go_wp2_with fail
  refine HC.out.mono ?_
  rintro e W1 ⟨v1, rfl, e1, hb1⟩
  obtain ⟨a, c, ev, h1, h2, h3⟩ := row_at e1.row
  subst ev
  unfold maxLen at h2
  have HV : Hid (∀ W, Below W1.heap.size W1 W → En (w.heap.size ≤ ·) W (.slice a rest.length c) rest) := fun W hW => e1.kept hW
  have HB1 : Hid (Below w.heap.size w W1) := hb1
  clear e1 hb1 HC
  go_wp2_with fail
  go_loopw [8, 9] (fun o i wr => ∃ k : Nat, k ≤ rest.length ∧ i = .int .i64 (k : Int) ∧ wr.ownsRow W1.heap.size 100 2 o (rest.take k).length ((rest.take k).flatMap enE) ∧ Below W1.heap.size W1 wr ∧ ∀ j (_ : j < k) (h2 : j < rest.length), bytesBefore rest[j].1 s = true) (fun _ i _ => rest.length - (intOf i).toNat)
  case atStart => exact ⟨0, Nat.zero_le _, rfl, World.ownsRow_nil _ _ _ _, Below.refl _ _, fun j hj => by omega⟩
  case round =>
    obtain ⟨k, hk, rfl, ho, hb, hn⟩ := hrel
    have HO : Hid (wr.ownsRow W1.heap.size 100 2 u8 (rest.take k).length ((rest.take k).flatMap enE) ∧ Below W1.heap.size W1 wr) := ⟨ho, hb⟩
    have HN : Hid (∀ j (_ : j < k) (h2 : j < rest.length), bytesBefore rest[j].1 s = true) := hn
    clear ho hb hn
    by_cases hlt : k < rest.length
    · obtain ⟨b, hb⟩ := h3 (List.ne_nil_of_length_pos (by omega))
      subst hb
      obtain ⟨y0, y1⟩ := (HV.out wr HO.out.2).cells k hlt
      cases hbb : bytesBefore rest[k].1 s with
      | true =>
        have HT : Hid (rest.take (k + 1) = rest.take k ++ [(rest[k].1, rest[k].2)]) := List.take_succ_eq_append_getElem hlt
        have HM : Hid (∀ j (_ : j < k + 1) (h2 : j < rest.length), bytesBefore rest[j].1 s = true) := fun j hj h2 => by
          by_cases e : j = k
          · subst e
            exact hbb
          · exact HN.out j (by omega) h2
        have hq : Op.bytesLess rest[k].1 s = true := by rw [less_eq]; exact hbb
        clear hbb
        generalize rest[k].1 = n1 at *
        generalize rest[k].2 = f1 at *
        have b1 := up0 wr (.cells #[.string ⟨n1.toArray⟩, .int .i64 (f1 : Int)] 100)
        obtain ⟨v', W2, hr, g3, -, g4⟩ := row_app1 tiE enE_len (Mg.row_kept HO.out.1 b1) (n1, f1) wr.heap.size 1 (enE_one _) (lb_new wr [.string ⟨n1.toArray⟩, .int .i64 (f1 : Int)] 100) (by rw [List.length_take]; have := HLN.out; omega) (Nat.le_trans HO.out.2.size b1.size) 49
        have HX : Hid (W2.ownsRow W1.heap.size 100 2 v' (rest.take (k + 1)).length ((rest.take (k + 1)).flatMap enE) ∧ Below W1.heap.size W1 W2) := ⟨by rw [HT.out]; exact g3, (andThen HO.out.2 b1).trans g4⟩
        clear b1 g3 g4
        go_wp2_with (at_builtin; refine wpList_appRun rfl (.tmp 26) (.tmp 31) 49 rfl rfl rfl hr ?_)
        clear hr
        go_wp2_with fail
        go_roundw
        case rel => exact ⟨k + 1, by omega, by go_num, HX.out.1, HX.out.2, HM.out⟩
        case measure => simp [intOf]; omega
      | false =>
        have HBF : Hid (∀ h : k < rest.length, bytesBefore rest[k].1 s = false) := fun _ => hbb
        have hq : Op.bytesLess rest[k].1 s = false := by rw [less_eq]; exact hbb
        clear hbb
        generalize hn1 : rest[k].1 = n1 at y0 hq
        clear hn1 y1
        have HIS : Hid (Dk.put l s f = rest.take k ++ [(s, f)] ++ rest.drop k) := by
          show Dk.put l s f = _
          unfold Dk.put
          rw [← HRS.out]
          exact ins_split (s, f) rest k (by omega) HNE.out HN.out HBF.out
        have b1 := up0 wr (.cells #[.string ⟨s.toArray⟩, .int .i64 (f : Int)] 100)
        obtain ⟨v', W2, hr, g3, -, g4⟩ := row_app1 tiE enE_len (Mg.row_kept HO.out.1 b1) (s, f) wr.heap.size 1 (enE_one _) (lb_new wr [.string ⟨s.toArray⟩, .int .i64 (f : Int)] 100) (by rw [List.length_take]; have := HLN.out; omega) (Nat.le_trans HO.out.2.size b1.size) 49
        have HX : Hid (W2.ownsRow W1.heap.size 100 2 v' (rest.take k ++ [(s, f)]).length ((rest.take k ++ [(s, f)]).flatMap enE) ∧ Below W1.heap.size W1 W2) := ⟨g3, (andThen HO.out.2 b1).trans g4⟩
        clear b1 g3 g4
        go_wp2_with (at_builtin; refine wpList_appRun rfl (.tmp 35) (.tmp 39) 49 rfl rfl rfl hr ?_)
        clear hr
        go_wp2_with fail
        go_loopw [8, 9] (fun o i wx => ∃ j : Nat, k ≤ j ∧ j ≤ rest.length ∧ i = .int .i64 (j : Int) ∧ wx.ownsRow W1.heap.size 100 2 o (rest.take k ++ [(s, f)] ++ (rest.drop k).take (j - k)).length ((rest.take k ++ [(s, f)] ++ (rest.drop k).take (j - k)).flatMap enE) ∧ Below W1.heap.size W1 wx) (fun _ i _ => rest.length - (intOf i).toNat)
        case atStart => exact ⟨k, Nat.le_refl _, by omega, rfl, by simpa using HX.out.1, HX.out.2⟩
        case round =>
          obtain ⟨j, hj1, hj2, rfl, ho, hb⟩ := hrel
          have HP : Hid (wr.ownsRow W1.heap.size 100 2 u8 (rest.take k ++ [(s, f)] ++ (rest.drop k).take (j - k)).length ((rest.take k ++ [(s, f)] ++ (rest.drop k).take (j - k)).flatMap enE) ∧ Below W1.heap.size W1 wr) := ⟨ho, hb⟩
          clear ho hb HO HX
          by_cases hjt : j < rest.length
          · obtain ⟨y0, y1⟩ := (HV.out wr HP.out.2).cells j hjt
            have HT : Hid ((rest.drop k).take (j + 1 - k) = (rest.drop k).take (j - k) ++ [(rest[j].1, rest[j].2)]) := by
              show (rest.drop k).take (j + 1 - k) = _
              rw [show j + 1 - k = j - k + 1 by omega, List.take_succ_eq_append_getElem (by rw [List.length_drop]; omega), List.getElem_drop]
              simp only [show k + (j - k) = j by omega]
            generalize rest[j].1 = n1 at *
            generalize rest[j].2 = f1 at *
            have b1 := up0 wr (.cells #[.string ⟨n1.toArray⟩, .int .i64 (f1 : Int)] 100)
            obtain ⟨v', W2, hr, g3, -, g4⟩ := row_app1 tiE enE_len (Mg.row_kept HP.out.1 b1) (n1, f1) wr.heap.size 1 (enE_one _) (lb_new wr [.string ⟨n1.toArray⟩, .int .i64 (f1 : Int)] 100) (by simp only [List.length_append, List.length_take, List.length_drop, List.length_singleton]; have := HLN.out; omega) (Nat.le_trans HP.out.2.size b1.size) 49
            have HX : Hid (W2.ownsRow W1.heap.size 100 2 v' (rest.take k ++ [(s, f)] ++ (rest.drop k).take (j + 1 - k)).length ((rest.take k ++ [(s, f)] ++ (rest.drop k).take (j + 1 - k)).flatMap enE) ∧ Below W1.heap.size W1 W2) := ⟨by rw [HT.out, ← List.append_assoc]; exact g3, (andThen HP.out.2 b1).trans g4⟩
            clear b1 g3 g4
            go_wp2_with (at_builtin; refine wpList_appRun rfl (.tmp 45) (.tmp 50) 49 rfl rfl rfl hr ?_)
            clear hr
            go_wp2_with fail
            go_roundw
            case rel => exact ⟨j + 1, by omega, by omega, by go_num, HX.out.1, HX.out.2⟩
            case measure => simp [intOf]; omega
          · go_wp2_with fail
            go_returns
            have h9 := HP.out.1
            have e9 : (rest.drop k).take (j - k) = rest.drop k := List.take_of_length_le (by rw [List.length_drop]; omega)
            rw [e9, ← HIS.out] at h9
            exact ⟨_, rfl, (Rw.of h9).mono fun q hq => Nat.le_trans HB1.out.size hq, HB1.out.trans (HP.out.2.mono HB1.out.size)⟩
    · skip
      have HIS : Hid (Dk.put l s f = rest.take k ++ [(s, f)] ++ rest.drop k) := by
        show Dk.put l s f = _
        unfold Dk.put
        rw [← HRS.out]
        exact ins_split (s, f) rest k (by omega) HNE.out HN.out (fun h => by omega)
      have b1 := up0 wr (.cells #[.string ⟨s.toArray⟩, .int .i64 (f : Int)] 100)
      obtain ⟨v', W2, hr, g3, -, g4⟩ := row_app1 tiE enE_len (Mg.row_kept HO.out.1 b1) (s, f) wr.heap.size 1 (enE_one _) (lb_new wr [.string ⟨s.toArray⟩, .int .i64 (f : Int)] 100) (by rw [List.length_take]; have := HLN.out; omega) (Nat.le_trans HO.out.2.size b1.size) 49
      have HX : Hid (W2.ownsRow W1.heap.size 100 2 v' (rest.take k ++ [(s, f)]).length ((rest.take k ++ [(s, f)]).flatMap enE) ∧ Below W1.heap.size W1 W2) := ⟨g3, (andThen HO.out.2 b1).trans g4⟩
      clear b1 g3 g4
      go_wp2_with (at_builtin; refine wpList_appRun rfl (.tmp 35) (.tmp 39) 49 rfl rfl rfl hr ?_)
      clear hr
      go_wp2_with fail
      go_loopw [8, 9] (fun o i wx => ∃ j : Nat, k ≤ j ∧ j ≤ rest.length ∧ i = .int .i64 (j : Int) ∧ wx.ownsRow W1.heap.size 100 2 o (rest.take k ++ [(s, f)] ++ (rest.drop k).take (j - k)).length ((rest.take k ++ [(s, f)] ++ (rest.drop k).take (j - k)).flatMap enE) ∧ Below W1.heap.size W1 wx) (fun _ i _ => rest.length - (intOf i).toNat)
      case atStart => exact ⟨k, Nat.le_refl _, by omega, rfl, by simpa using HX.out.1, HX.out.2⟩
      case round =>
        obtain ⟨j, hj1, hj2, rfl, ho, hb⟩ := hrel
        have HP : Hid (wr.ownsRow W1.heap.size 100 2 u8 (rest.take k ++ [(s, f)] ++ (rest.drop k).take (j - k)).length ((rest.take k ++ [(s, f)] ++ (rest.drop k).take (j - k)).flatMap enE) ∧ Below W1.heap.size W1 wr) := ⟨ho, hb⟩
        clear ho hb HO HX
        by_cases hjt : j < rest.length
        · exfalso
          omega
        · go_wp2_with fail
          go_returns
          have h9 := HP.out.1
          have e9 : (rest.drop k).take (j - k) = rest.drop k := List.take_of_length_le (by rw [List.length_drop]; omega)
          rw [e9, ← HIS.out] at h9
          exact ⟨_, rfl, (Rw.of h9).mono fun q hq => Nat.le_trans HB1.out.size hq, HB1.out.trans (HP.out.2.mono HB1.out.size)⟩
set_option maxRecDepth 100000 in
set_option maxHeartbeats 8000000 in
theorem rkchanged_any (ok : Nat → Prop) (v : Value) (l : Dk.Nm) (c : RCh) (w : World) (h : En ok w v l) (hl : l.length ≤ 300000000) (hc : c.k = 2 → ∃ i, Dk.get l c.a = some i) :
    Calls Try.prog 79 #[v, .agg #[.int .i64 c.k, .string ⟨c.a.toArray⟩, .string ⟨c.b.toArray⟩, .int .i64 (c.f : Int)]] w fun e w' => ∃ v', e = .returned v' ∧ En (w.heap.size ≤ ·) w' v' (chd l c) ∧ Below w.heap.size w w' := by
  have HV : Hid (∀ W, Below w.heap.size w W → En ok W v l) := fun W hW => h.kept hW
  clear h
  obtain ⟨ck, ca, cb, cf⟩ := c
  simp only at hc
  have bw := up0 w (.cells #[.int .i64 ck, .string ⟨ca.toArray⟩, .string ⟨cb.toArray⟩, .int .i64 (cf : Int)] 137)
  have lw := lb_new w [.int .i64 ck, .string ⟨ca.toArray⟩, .string ⟨cb.toArray⟩, .int .i64 (cf : Int)] 137
  go_enter Try.func79, Try.ntmps79
  go_upto_region 1 with fail
  obtain ⟨p, hp⟩ : ∃ p, p = w.heap.size := ⟨_, rfl⟩
  obtain ⟨Wp, hWp⟩ : ∃ W, W = w.alloc (.cells #[.int .i64 ck, .string ⟨ca.toArray⟩, .string ⟨cb.toArray⟩, .int .i64 (cf : Int)] 137) := ⟨_, rfl⟩
  have lp : LB Wp p 137 [.int .i64 ck, .string ⟨ca.toArray⟩, .string ⟨cb.toArray⟩, .int .i64 (cf : Int)] := by rw [hWp, hp]; exact lw
  have HBP : Hid (Below w.heap.size w Wp) := by rw [hWp]; exact bw
  rw [← hWp, ← hp]
  have HLP : Hid (∀ W, Below Wp.heap.size Wp W → W.cell? ⟨p, 0, none⟩ = some (.int .i64 ck) ∧ W.cell? ⟨p, 1, none⟩ = some (.string ⟨ca.toArray⟩) ∧ W.cell? ⟨p, 2, none⟩ = some (.string ⟨cb.toArray⟩) ∧ W.cell? ⟨p, 3, none⟩ = some (.int .i64 (cf : Int))) := fun W hW => ⟨(lp.kept hW).cell 0 _ rfl, (lp.kept hW).cell 1 _ rfl, (lp.kept hW).cell 2 _ rfl, (lp.kept hW).cell 3 _ rfl⟩
  clear bw lw lp hWp hp
  obtain ⟨r0, r1, r2, r3⟩ := HLP.out Wp (Below.refl _ _)
  by_cases k1 : ck = 1
  · subst k1
    have HC : Hid (Calls Try.prog 84 #[v, .string ⟨ca.toArray⟩, .int .i64 (cf : Int)] Wp fun e w' => ∃ v', e = .returned v' ∧ En (Wp.heap.size ≤ ·) w' v' (Dk.put l ca cf) ∧ Below Wp.heap.size Wp w') := rkwith_any ok v l ca cf Wp (HV.out Wp HBP.out) (by omega)
    go_wp2_with fail
    refine HC.out.mono ?_
    rintro e W1 ⟨v1, rfl, e1, b1⟩
    have H9 : Hid (En (Wp.heap.size ≤ ·) W1 v1 (Dk.put l ca cf) ∧ Below Wp.heap.size Wp W1) := ⟨e1, b1⟩
    clear e1 b1 HC
    go_wp2_with fail
    go_returns
    exact ⟨_, rfl, H9.out.1.mono fun q hq => Nat.le_trans HBP.out.size hq, andThen HBP.out H9.out.2⟩
  · have x1 : (ck == 1) = false := beq_eq_false_iff_ne.2 k1
    by_cases k2 : ck = 2
    · subst k2
      obtain ⟨i, hi⟩ := hc rfl
      have HG : Hid (Dk.get l ca = some i) := hi
      have HC : Hid (Calls Try.prog 88 #[v, .string ⟨ca.toArray⟩] Wp fun e w' => ∃ (j : Nat) (h : j < l.length), e = .returned (.int .i64 (j : Int)) ∧ l[j].2 = i ∧ w' = Wp) := (rkfind_any ok v l ca Wp (HV.out Wp HBP.out)).mono fun e w' ⟨r, h1, h2, h3⟩ => by
        rcases h2 with ⟨-, hn⟩ | ⟨j, hj, rfl, -, hg⟩
        · rw [HG.out] at hn
          cases hn
        · rw [HG.out] at hg
          exact ⟨j, hj, h1, (Option.some.inj hg).symm, h3⟩
      clear hi hc k1
      go_wp2_with fail
      refine HC.out.mono ?_
      rintro e W1 ⟨j, hj, rfl, hji, rfl⟩
      obtain ⟨a, c, ev, h1, h2, h3⟩ := row_at (HV.out W1 HBP.out).row
      subst ev
      unfold maxLen at h2
      obtain ⟨b, hb⟩ := h3 (List.ne_nil_of_length_pos (by omega))
      subst hb
      obtain ⟨-, y1⟩ := (HV.out W1 HBP.out).cells j hj
      rw [hji] at y1
      have HC2 : Hid (Calls Try.prog 92 #[.slice (some ⟨b, 0, none⟩) l.length c, .string ⟨ca.toArray⟩] W1 fun e w' => ∃ v', e = .returned v' ∧ En (W1.heap.size ≤ ·) w' v' (Dk.del l ca) ∧ Below W1.heap.size W1 w') := rkwithout_any ok _ l ca W1 (HV.out W1 HBP.out) (by omega)
      clear HC hji
      go_wp2_with fail
      refine HC2.out.mono ?_
      rintro e W2 ⟨v2, rfl, e2, b2⟩
      obtain ⟨-, -, r2, -⟩ := HLP.out W2 b2
      have HC3 : Hid (Calls Try.prog 84 #[v2, .string ⟨cb.toArray⟩, .int .i64 (i : Int)] W2 fun e w' => ∃ v', e = .returned v' ∧ En (W2.heap.size ≤ ·) w' v' (Dk.put (Dk.del l ca) cb i) ∧ Below W2.heap.size W2 w') := rkwith_any _ v2 _ cb i W2 e2 (by have := Dk.len_del l ca; omega)
      have HB2 : Hid (Below W1.heap.size W1 W2) := b2
      clear e2 b2 HC2
      go_wp2_with fail
      refine HC3.out.mono ?_
      rintro e W3 ⟨v3, rfl, e3, b3⟩
      have H9 : Hid (En (W2.heap.size ≤ ·) W3 v3 (Dk.put (Dk.del l ca) cb i) ∧ Below W1.heap.size W1 W3) := ⟨e3, andThen HB2.out b3⟩
      clear e3 b3 HC3
      go_wp2_with fail
      go_returns
      have hE : chd l ⟨2, ca, cb, cf⟩ = Dk.put (Dk.del l ca) cb i := by
        show Dk.put (Dk.del l ca) cb ((Dk.get l ca).getD 0) = _
        rw [HG.out]
        rfl
      rw [hE]
      exact ⟨_, rfl, H9.out.1.mono fun q hq => Nat.le_trans (Nat.le_trans HBP.out.size HB2.out.size) hq, andThen HBP.out H9.out.2⟩
    · have x2 : (ck == 2) = false := beq_eq_false_iff_ne.2 k2
      have HK : Hid (¬ ck = 1 ∧ ¬ ck = 2) := ⟨k1, k2⟩
      have HC2 : Hid (Calls Try.prog 92 #[v, .string ⟨ca.toArray⟩] Wp fun e w' => ∃ v', e = .returned v' ∧ En (Wp.heap.size ≤ ·) w' v' (Dk.del l ca) ∧ Below Wp.heap.size Wp w') := rkwithout_any ok _ l ca Wp (HV.out Wp HBP.out) (by omega)
      clear hc k1 k2
      go_wp2_with fail
      refine HC2.out.mono ?_
      rintro e W2 ⟨v2, rfl, e2, b2⟩
      have H9 : Hid (En (Wp.heap.size ≤ ·) W2 v2 (Dk.del l ca) ∧ Below Wp.heap.size Wp W2) := ⟨e2, b2⟩
      clear e2 b2 HC2
      go_wp2_with fail
      go_returns
      have hE : chd l ⟨ck, ca, cb, cf⟩ = Dk.del l ca := by
        unfold chd
        rw [if_neg HK.out.1, if_neg HK.out.2]
      rw [hE]
      exact ⟨_, rfl, H9.out.1.mono fun q hq => Nat.le_trans HBP.out.size hq, andThen HBP.out H9.out.2⟩
end Go.Proofs.Ytjepeeopjjnglab

/-
  The document's disk: a state in memory; named, set.
-/
namespace Go.Proofs.Ytjepeeopjjnglab
open Go Go.RowKit Go.ChangeShapes
open Wb
open Rd
namespace Rd
/-- a state in memory, to be read -/
structure SM (ok : Nat → Prop) (w : World) (xs : List (Value × Th)) (nm la : Dk.Nm) (ch : List RCh) (tv nv lv cv : Value) : Prop where
  rt : Rw ok w 98 3 enT tv xs
  od : ∀ x ∈ xs, Own 0 w x.1 x.2.data ∧ ∀ q, x.1.ownBlock = some q → ok q
  rn : En ok w nv nm
  rl : En ok w lv la
  rc : Rw ok w 137 4 enG cv ch
section
variable {ok ok2 : Nat → Prop} {w w' : World} {xs : List (Value × Th)} {nm la : Dk.Nm} {ch : List RCh} {tv nv lv cv : Value}
theorem own_blk {B : Nat} {v : Value} {l : List Nat} (h : Own B w v l) (hb : ∀ q, v.ownBlock = some q → w'.heap[q]? = w.heap[q]?) : Own B w' v l := ⟨Mg.row_block h.row hb, h.good⟩
theorem SM.blk (h : SM ok w xs nm la ch tv nv lv cv) (hb : ∀ q, ok q → q < w.heap.size → w'.heap[q]? = w.heap[q]?) : SM ok w' xs nm la ch tv nv lv cv := ⟨h.rt.blk hb, fun x hx => ⟨own_blk (h.od x hx).1 fun q e => hb q ((h.od x hx).2 q e) (World.ownsRow.lt (h.od x hx).1.row q e).2, (h.od x hx).2⟩, h.rn.blk hb, h.rl.blk hb, h.rc.blk hb⟩
theorem SM.kept (h : SM ok w xs nm la ch tv nv lv cv) (hb : Below w.heap.size w w') : SM ok w' xs nm la ch tv nv lv cv := h.blk fun q _ hq => hb.block q hq
theorem SM.mono (h : SM ok w xs nm la ch tv nv lv cv) (hm : ∀ q, ok q → ok2 q) : SM ok2 w xs nm la ch tv nv lv cv := ⟨h.rt.mono hm, fun x hx => ⟨(h.od x hx).1, fun q e => hm q ((h.od x hx).2 q e)⟩, h.rn.mono hm, h.rl.mono hm, h.rc.mono hm⟩
/-- three boxes, one behind the other -/
theorem box3 (w : World) (A B C : List Value) (t1 t2 t3 : TypeId) : LB (((w.alloc (.cells A.toArray t1)).alloc (.cells B.toArray t2)).alloc (.cells C.toArray t3)) w.heap.size t1 A ∧ LB (((w.alloc (.cells A.toArray t1)).alloc (.cells B.toArray t2)).alloc (.cells C.toArray t3)) (w.heap.size + 1) t2 B ∧ LB (((w.alloc (.cells A.toArray t1)).alloc (.cells B.toArray t2)).alloc (.cells C.toArray t3)) (w.heap.size + 1 + 1) t3 C ∧ Below w.heap.size w (((w.alloc (.cells A.toArray t1)).alloc (.cells B.toArray t2)).alloc (.cells C.toArray t3)) := by
  obtain ⟨h1, h2, h3⟩ := lb_new2 w A B t1 t2
  have h4 := lb_new ((w.alloc (.cells A.toArray t1)).alloc (.cells B.toArray t2)) C t3
  rw [heap_one, heap_one] at h4
  exact ⟨h1.kept (up0 _ _), h2.kept (up0 _ _), h4, andThen h3 (up0 _ _)⟩
theorem os_set (w : World) (p : Addr) (v : Value) : (w.setCell p v).os = w.os := rfl
theorem tape_set (w : World) (p : Addr) (v : Value) : (w.setCell p v).tape = w.tape := rfl
theorem output_set (w : World) (p : Addr) (v : Value) : (w.setCell p v).output = w.output := rfl
/-- two boxes of the call's own are written -/
theorem below_fin {w W Wz : World} {p0 p2 : Nat} (far : ∀ q, q ≠ p0 → q ≠ p2 → Wz.heap[q]? = W.heap[q]?) (h : Wz.os = W.os ∧ Wz.tape = W.tape ∧ Wz.output = W.output ∧ Wz.heap.size = W.heap.size) (b : Below w.heap.size w W) (k1 : w.heap.size ≤ p0) (k2 : w.heap.size ≤ p2) : Below w.heap.size w Wz :=
  ⟨h.1.trans b.os, h.2.1.trans b.tape, h.2.2.1.trans b.output, by rw [h.2.2.2]; exact b.size, fun q hq => (far q (by omega) (by omega)).trans (b.block q hq)⟩
theorem rw_fin {α : Type} {c : Nat} {t : TypeId} {en : α → List Value} {v : Value} {ys : List α} {W Wz : World} {p0 p2 K B : Nat} (far : ∀ q, q ≠ p0 → q ≠ p2 → Wz.heap[q]? = W.heap[q]?) (h : Rw (K ≤ ·) W t c en v ys) (k0 : p0 < K) (k2 : p2 < K) (hB : B ≤ K) : Rw (B ≤ ·) Wz t c en v ys := (h.blk fun q hq _ => far q (by omega) (by omega)).mono fun q hq => Nat.le_trans hB hq
theorem results_cell_mid {P : Program} {fn : Func} {p : Tmp} {ty : TypeId} (h : fn.results = #[.cell p ty]) (tmps : Array Value) (w : World) (g : Nat) (cs : List Value) (d : TypeDesc)
    (hp : tmps.getD p undef = .pointer (some ⟨g, 0, none⟩)) (hc : w.rangeAt g 0 cs) (hu : P.underlying ty = some d) (hd : d.isRow = true) (hi : (P.info? ty).map (·.size) = some cs.length) :
    (results fn tmps).run P w = .ok (.agg cs.toArray) w := by
  have hp' : tmps[p]?.getD undef = .pointer (some ⟨g, 0, none⟩) := by simpa using hp
  simp [results, h, hp', asAddr, run_loadVar_mid w g 0 ty cs d hc hu hd hi]
theorem rw_slice {α : Type} {c : Nat} {t : TypeId} {en : α → List Value} {v : Value} {ys : List α} (h : Rw ok w t c en v ys) : ∃ a k, v = .slice a ys.length k := by
  obtain ⟨a, k, e, -⟩ := row_at h.row
  exact ⟨a, k, e⟩
end
end Rd
set_option maxRecDepth 100000 in
set_option maxHeartbeats 8000000 in
theorem rknamed_any (ok : Nat → Prop) (xs : List (Value × Th)) (nm la : Dk.Nm) (ch : List RCh) (tv nv lv cv : Value) (c : RCh) (w : World) (h : SM ok w xs nm la ch tv nv lv cv) (hn : nm.length ≤ 300000000) (hl : ch.length ≤ 300000000) (hc : c.k = 2 → ∃ i, Dk.get nm c.a = some i) :
    Calls Try.prog 89 #[.agg #[tv, nv, lv, cv], .agg #[.int .i64 c.k, .string ⟨c.a.toArray⟩, .string ⟨c.b.toArray⟩, .int .i64 (c.f : Int)]] w fun e w' => ∃ nv' cv', e = .returned (.agg #[tv, nv', lv, cv']) ∧ En (w.heap.size ≤ ·) w' nv' (chd nm c) ∧ Rw (w.heap.size ≤ ·) w' 137 4 enG cv' (ch ++ [c]) ∧ Below w.heap.size w w' := by
  have HV : Hid (∀ W, Below w.heap.size w W → SM ok W xs nm la ch tv nv lv cv) := fun W hW => h.kept hW
  obtain ⟨a1, c1, rfl⟩ := rw_slice h.rt
  obtain ⟨a2, c2, rfl⟩ := rw_slice h.rn
  obtain ⟨a3, c3, rfl⟩ := rw_slice h.rl
  obtain ⟨a4, c4, rfl⟩ := rw_slice h.rc
  clear h
  go_enter Try.func89, Try.ntmps89
  go_upto_region 2 with fail
  obtain ⟨W3, hW3⟩ : ∃ W, W = ((w.alloc (.cells #[.slice a1 xs.length c1, .slice a2 nm.length c2, .slice a3 la.length c3, .slice a4 ch.length c4] 52)).alloc (.cells #[.int .i64 c.k, .string ⟨c.a.toArray⟩, .string ⟨c.b.toArray⟩, .int .i64 (c.f : Int)] 137)).alloc (.cells #[.slice none 0 0, .slice none 0 0, .slice none 0 0, .slice none 0 0] 52) := ⟨_, rfl⟩
  have hb3 := box3 w [.slice a1 xs.length c1, .slice a2 nm.length c2, .slice a3 la.length c3, .slice a4 ch.length c4] [.int .i64 c.k, .string ⟨c.a.toArray⟩, .string ⟨c.b.toArray⟩, .int .i64 (c.f : Int)] [.slice none 0 0, .slice none 0 0, .slice none 0 0, .slice none 0 0] 52 137 52
  rw [← hW3]
  obtain ⟨p0, hp0⟩ : ∃ p, p = w.heap.size := ⟨_, rfl⟩
  obtain ⟨p1, hp1⟩ : ∃ p, p = w.heap.size + 1 := ⟨_, rfl⟩
  obtain ⟨p2, hp2⟩ : ∃ p, p = w.heap.size + 1 + 1 := ⟨_, rfl⟩
  rw [← hp2, ← hp1, ← hp0]
  have HB3 : Hid (LB W3 p0 52 [.slice a1 xs.length c1, .slice a2 nm.length c2, .slice a3 la.length c3, .slice a4 ch.length c4] ∧ LB W3 p1 137 [.int .i64 c.k, .string ⟨c.a.toArray⟩, .string ⟨c.b.toArray⟩, .int .i64 (c.f : Int)] ∧ LB W3 p2 52 [.slice none 0 0, .slice none 0 0, .slice none 0 0, .slice none 0 0] ∧ Below w.heap.size w W3) := by
    rw [hp0, hp1, hp2, hW3]
    exact hb3
  have HP : Hid (w.heap.size ≤ p0 ∧ w.heap.size ≤ p2 ∧ p0 < W3.heap.size ∧ p2 < W3.heap.size) := ⟨by omega, by omega, HB3.out.1.lt, HB3.out.2.2.1.lt⟩
  have n02 : (p0 = p2) = False := eq_false (by omega)
  have n20 : (p2 = p0) = False := eq_false (by omega)
  clear hb3 hW3 hp0 hp1 hp2
  have r3 := HB3.out.1.cell 3 _ rfl
  obtain ⟨v4, W4, hr4, g4, -, b4⟩ := row_appR (xs := ([] : List RCh)) tiG enG_len (World.ownsRow_nil W3 W3.heap.size 137 4) (HV.out W3 HB3.out.2.2.2).rc.row (fun x _ => enG_one x) (by simp; omega) (Nat.le_refl _) 50
  have H4 : Hid (W4.ownsRow W3.heap.size 137 4 v4 ch.length (ch.flatMap enG) ∧ Below W3.heap.size W3 W4) := ⟨g4, b4⟩
  clear g4 b4
  have q0 := (HB3.out.2.1.kept H4.out.2).cell 0 _ rfl
  have q1 := (HB3.out.2.1.kept H4.out.2).cell 1 _ rfl
  have q2 := (HB3.out.2.1.kept H4.out.2).cell 2 _ rfl
  have q3 := (HB3.out.2.1.kept H4.out.2).cell 3 _ rfl
  have b1 := up0 W4 (.cells #[.int .i64 c.k, .string ⟨c.a.toArray⟩, .string ⟨c.b.toArray⟩, .int .i64 (c.f : Int)] 137)
  obtain ⟨v5, W5, hr5, g5, -, b5⟩ := row_app1 tiG enG_len (Mg.row_kept H4.out.1 b1) c W4.heap.size 1 (enG_one _) (lb_new W4 [.int .i64 c.k, .string ⟨c.a.toArray⟩, .string ⟨c.b.toArray⟩, .int .i64 (c.f : Int)] 137) (by omega) (Nat.le_trans H4.out.2.size b1.size) 50
  have H5 : Hid (W5.ownsRow W3.heap.size 137 4 v5 (ch ++ [c]).length ((ch ++ [c]).flatMap enG) ∧ Below W3.heap.size W3 W5) := ⟨g5, (andThen H4.out.2 b1).trans b5⟩
  clear g5 b5 b1
  have s0 := (HB3.out.2.1.kept H5.out.2).cell 0 _ rfl
  have s1 := (HB3.out.2.1.kept H5.out.2).cell 1 _ rfl
  have s2 := (HB3.out.2.1.kept H5.out.2).cell 2 _ rfl
  have s3 := (HB3.out.2.1.kept H5.out.2).cell 3 _ rfl
  have r1 := (HB3.out.1.kept H5.out.2).cell 1 _ rfl
  have HC : Hid (Calls Try.prog 79 #[.slice a2 nm.length c2, .agg #[.int .i64 c.k, .string ⟨c.a.toArray⟩, .string ⟨c.b.toArray⟩, .int .i64 (c.f : Int)]] W5 fun e w' => ∃ a c9, e = .returned (.slice a (chd nm c).length c9) ∧ En (W5.heap.size ≤ ·) w' (.slice a (chd nm c).length c9) (chd nm c) ∧ Below W5.heap.size W5 w') := (rkchanged_any ok _ nm c W5 (HV.out W5 (andThen HB3.out.2.2.2 H5.out.2)).rn hn hc).mono fun e w' ⟨v', h1, h2, h3⟩ => by
    obtain ⟨a, k, rfl⟩ := rw_slice h2
    exact ⟨a, k, h1, h2, h3⟩
  obtain ⟨a5, c5, e5, -⟩ := row_at H5.out.1
  subst e5
  go_wp2_with (at_builtin; first | refine wpList_appRun rfl (.tmp 6) (.tmp 8) 50 rfl rfl rfl hr4 ?_ | refine wpList_appRun rfl (.tmp 10) (.tmp 12) 50 rfl rfl rfl hr5 ?_)
  refine HC.out.mono ?_
  rintro e W6 ⟨a6, c6, rfl, e6, b6⟩
  have H6 : Hid (En (W5.heap.size ≤ ·) W6 (.slice a6 (chd nm c).length c6) (chd nm c) ∧ Below W3.heap.size W3 W6 ∧ W6.ownsRow W3.heap.size 137 4 (.slice a5 (ch ++ [c]).length c5) (ch ++ [c]).length ((ch ++ [c]).flatMap enG)) := ⟨e6, andThen H5.out.2 b6, Mg.row_kept H5.out.1 b6⟩
  have HS5 : Hid (W3.heap.size ≤ W5.heap.size) := H5.out.2.size
  clear e6 b6 HC q0 q1 q2 q3 s0 s1 s2 s3 r3 r1 H4 H5 hr4 hr5
  have L0 := HB3.out.1.kept H6.out.2.1
  have L2 := HB3.out.2.2.1.kept H6.out.2.1
  have r0 := L0.cell 0 _ rfl
  have r1 := L0.cell 1 _ rfl
  have r2 := L0.cell 2 _ rfl
  have r3 := L0.cell 3 _ rfl
  have f1 := L0.free 1
  have f3 := L0.free 3
  have z0 := L2.cell 0 _ rfl
  have z1 := L2.cell 1 _ rfl
  have z2 := L2.cell 2 _ rfl
  have z3 := L2.cell 3 _ rfl
  have y0 := L2.free 0
  have y1 := L2.free 1
  have y2 := L2.free 2
  have y3 := L2.free 3
  have HL : Hid (LB W6 p0 52 [.slice a1 xs.length c1, .slice a2 nm.length c2, .slice a3 la.length c3, .slice a4 ch.length c4] ∧ LB W6 p2 52 [.slice none 0 0, .slice none 0 0, .slice none 0 0, .slice none 0 0]) := ⟨L0, L2⟩
  have HN : Hid (p0 ≠ p2) := fun e => by rw [n02] at e; exact e
  clear L0 L2
  go_wp2_with fail
  have LZ := (((((HL.out.2.other ⟨p0, 1, none⟩ (.slice a6 (chd nm c).length c6) (Ne.symm HN.out)).other ⟨p0, 3, none⟩ (.slice a5 (ch.length + 1) c5) (Ne.symm HN.out)).set 0 (.slice a1 xs.length c1)).set 1 (.slice a6 (chd nm c).length c6)).set 2 (.slice a3 la.length c3)).set 3 (.slice a5 (ch.length + 1) c5)
  refine bodyPost_ret (results_cell_mid rfl _ _ p2 [.slice a1 xs.length c1, .slice a6 (chd nm c).length c6, .slice a3 la.length c3, .slice a5 (ch.length + 1) c5] _ rfl LZ.range Try.underlying52 rfl (by kernel_rfl)) rfl ?_
  have far : ∀ q, q ≠ p0 → q ≠ p2 → (((((((W6.setCell ⟨p0, 1, none⟩ (.slice a6 (chd nm c).length c6)).setCell ⟨p0, 3, none⟩ (.slice a5 (ch.length + 1) c5)).setCell ⟨p2, 0, none⟩ (.slice a1 xs.length c1)).setCell ⟨p2, 1, none⟩ (.slice a6 (chd nm c).length c6)).setCell ⟨p2, 2, none⟩ (.slice a3 la.length c3)).setCell ⟨p2, 3, none⟩ (.slice a5 (ch.length + 1) c5))).heap[q]? = W6.heap[q]? := fun q h1 h2 => by
    rw [set_other _ _ _ _ h2, set_other _ _ _ _ h2, set_other _ _ _ _ h2, set_other _ _ _ _ h2, set_other _ _ _ _ h1, set_other _ _ _ _ h1]
  have h9 := H6.out.2.2
  rw [List.length_append, List.length_singleton] at h9
  have h8 : W6.ownsRow W3.heap.size 137 4 (.slice a5 (ch.length + 1) c5) (ch ++ [c]).length ((ch ++ [c]).flatMap enG) := by
    rw [List.length_append, List.length_singleton]
    exact h9
  refine ⟨_, _, rfl, ?_, ?_, ?_⟩
  · exact rw_fin far H6.out.1 (Nat.lt_of_lt_of_le HP.out.2.2.1 HS5.out) (Nat.lt_of_lt_of_le HP.out.2.2.2 HS5.out) (Nat.le_trans HB3.out.2.2.2.size HS5.out)
  · exact rw_fin far (Rw.of h8) HP.out.2.2.1 HP.out.2.2.2 HB3.out.2.2.2.size
  · refine below_fin far ?_ (andThen HB3.out.2.2.2 H6.out.2.1) HP.out.1 HP.out.2.1
    simp only [size_set1, os_set, tape_set, output_set, and_self]
end Go.Proofs.Ytjepeeopjjnglab
