import Derived.BigQuiet
import Derived.Test.YtgdfnlbiminblaaQG14
/-
  The document's disk: with, changed.
-/
namespace Go.Proofs.Ytgdfnlbiminblaa
open Go Go.RowKit Go.ChangeShapes
open Wb
open Rd
set_option maxRecDepth 100000 in
set_option maxHeartbeats 8000000 in
theorem rkwith_any (ok : Nat → Prop) (v : Value) (l : Dk.Nm) (s : List UInt8) (f : Nat) (w : World) (h : En ok w v l) (hl : l.length ≤ 400000000) :
    Calls Try.prog 39 #[v, .string ⟨s.toArray⟩, .int .i64 (f : Int)] w fun e w' => ∃ v', e = .returned v' ∧ En (w.heap.size ≤ ·) w' v' (Dk.put l s f) ∧ Below w.heap.size w w' := by
  have HC : Hid (Calls Try.prog 46 #[v, .string ⟨s.toArray⟩] w fun e w' => ∃ v', e = .returned v' ∧ En (w.heap.size ≤ ·) w' v' (Dk.del l s) ∧ Below w.heap.size w w') := rkwithout_any ok v l s w h (by omega)
  obtain ⟨rest, hrest⟩ : ∃ r, r = Dk.del l s := ⟨_, rfl⟩
  have HLN : Hid (rest.length ≤ 400000000) := by
    show rest.length ≤ _
    rw [hrest]
    have := Dk.len_del l s
    omega
  have HNE : Hid (∀ p ∈ rest, p.1 ≠ s) := fun p hp => by
    rw [hrest] at hp
    exact (Dk.mem_del.1 hp).2
  have HRS : Hid (rest = Dk.del l s) := hrest
  rw [← hrest] at HC
  clear h hrest hl
  go_enter Try.func39, Try.ntmps39
  go_wp2_with fail
  refine HC.out.mono ?_
  rintro e W1 ⟨v1, rfl, e1, hb1⟩
  obtain ⟨a, c, ev, h1, h2, h3⟩ := row_at e1.row
  subst ev
  unfold maxLen at h2
  have HV : Hid (∀ W, Below W1.heap.size W1 W → En (w.heap.size ≤ ·) W (.slice a rest.length c) rest) := fun W hW => e1.kept hW
  have HB1 : Hid (Below w.heap.size w W1) := hb1
  clear e1 hb1 HC
  go_wp2_with fail
  go_loopw [8, 9] (fun o i wr => ∃ k : Nat, k ≤ rest.length ∧ i = .int .i64 (k : Int) ∧ wr.ownsRow W1.heap.size 70 2 o (rest.take k).length ((rest.take k).flatMap enE) ∧ Below W1.heap.size W1 wr ∧ ∀ j (_ : j < k) (h2 : j < rest.length), bytesBefore rest[j].1 s = true) (fun _ i _ => rest.length - (intOf i).toNat)
  case atStart => exact ⟨0, Nat.zero_le _, rfl, World.ownsRow_nil _ _ _ _, Below.refl _ _, fun j hj => by omega⟩
  case round =>
    obtain ⟨k, hk, rfl, ho, hb, hn⟩ := hrel
    have HO : Hid (wr.ownsRow W1.heap.size 70 2 u8 (rest.take k).length ((rest.take k).flatMap enE) ∧ Below W1.heap.size W1 wr) := ⟨ho, hb⟩
    have HN : Hid (∀ j (_ : j < k) (h2 : j < rest.length), bytesBefore rest[j].1 s = true) := hn
    clear ho hb hn
    by_cases hlt : k < rest.length
    · obtain ⟨b, hb⟩ := h3 (List.ne_nil_of_length_pos (by omega))
      subst hb
      obtain ⟨y0, y1⟩ := (HV.out wr HO.out.2).cells k hlt
      cases hbb : bytesBefore rest[k].1 s with
      | true =>
        have HT : Hid (rest.take (k + 1) = rest.take k ++ [(rest[k].1, rest[k].2)]) := List.take_succ_eq_append_getElem hlt
        have HM : Hid (∀ j (_ : j < k + 1) (h2 : j < rest.length), bytesBefore rest[j].1 s = true) := fun j hj h2 => by
          by_cases e : j = k
          · subst e
            exact hbb
          · exact HN.out j (by omega) h2
        have hq : Op.bytesLess rest[k].1 s = true := by rw [less_eq]; exact hbb
        clear hbb
        generalize rest[k].1 = n1 at *
        generalize rest[k].2 = f1 at *
        have b1 := up0 wr (.cells #[.string ⟨n1.toArray⟩, .int .i64 (f1 : Int)] 70)
        obtain ⟨v', W2, hr, g3, -, g4⟩ := row_app1 tiE enE_len (Mg.row_kept HO.out.1 b1) (n1, f1) wr.heap.size 1 (enE_one _) (lb_new wr [.string ⟨n1.toArray⟩, .int .i64 (f1 : Int)] 70) (by rw [List.length_take]; have := HLN.out; omega) (Nat.le_trans HO.out.2.size b1.size) 40
        have HX : Hid (W2.ownsRow W1.heap.size 70 2 v' (rest.take (k + 1)).length ((rest.take (k + 1)).flatMap enE) ∧ Below W1.heap.size W1 W2) := ⟨by rw [HT.out]; exact g3, (andThen HO.out.2 b1).trans g4⟩
        clear b1 g3 g4
        go_wp2_with (at_builtin; refine wpList_appRun rfl (.tmp 26) (.tmp 31) 40 rfl rfl rfl hr ?_)
        clear hr
        go_wp2_with fail
        go_roundw
        case rel => exact ⟨k + 1, by omega, by go_num, HX.out.1, HX.out.2, HM.out⟩
        case measure => simp [intOf]; omega
      | false =>
        have HBF : Hid (∀ h : k < rest.length, bytesBefore rest[k].1 s = false) := fun _ => hbb
        have hq : Op.bytesLess rest[k].1 s = false := by rw [less_eq]; exact hbb
        clear hbb
        generalize hn1 : rest[k].1 = n1 at y0 hq
        clear hn1 y1
        have HIS : Hid (Dk.put l s f = rest.take k ++ [(s, f)] ++ rest.drop k) := by
          show Dk.put l s f = _
          unfold Dk.put
          rw [← HRS.out]
          exact ins_split (s, f) rest k (by omega) HNE.out HN.out HBF.out
        have b1 := up0 wr (.cells #[.string ⟨s.toArray⟩, .int .i64 (f : Int)] 70)
        obtain ⟨v', W2, hr, g3, -, g4⟩ := row_app1 tiE enE_len (Mg.row_kept HO.out.1 b1) (s, f) wr.heap.size 1 (enE_one _) (lb_new wr [.string ⟨s.toArray⟩, .int .i64 (f : Int)] 70) (by rw [List.length_take]; have := HLN.out; omega) (Nat.le_trans HO.out.2.size b1.size) 40
        have HX : Hid (W2.ownsRow W1.heap.size 70 2 v' (rest.take k ++ [(s, f)]).length ((rest.take k ++ [(s, f)]).flatMap enE) ∧ Below W1.heap.size W1 W2) := ⟨g3, (andThen HO.out.2 b1).trans g4⟩
        clear b1 g3 g4
        go_wp2_with (at_builtin; refine wpList_appRun rfl (.tmp 35) (.tmp 39) 40 rfl rfl rfl hr ?_)
        clear hr
        go_wp2_with fail
        go_loopw [8, 9] (fun o i wx => ∃ j : Nat, k ≤ j ∧ j ≤ rest.length ∧ i = .int .i64 (j : Int) ∧ wx.ownsRow W1.heap.size 70 2 o (rest.take k ++ [(s, f)] ++ (rest.drop k).take (j - k)).length ((rest.take k ++ [(s, f)] ++ (rest.drop k).take (j - k)).flatMap enE) ∧ Below W1.heap.size W1 wx) (fun _ i _ => rest.length - (intOf i).toNat)
        case atStart => exact ⟨k, Nat.le_refl _, by omega, rfl, by simpa using HX.out.1, HX.out.2⟩
        case round =>
          obtain ⟨j, hj1, hj2, rfl, ho, hb⟩ := hrel
          have HP : Hid (wr.ownsRow W1.heap.size 70 2 u8 (rest.take k ++ [(s, f)] ++ (rest.drop k).take (j - k)).length ((rest.take k ++ [(s, f)] ++ (rest.drop k).take (j - k)).flatMap enE) ∧ Below W1.heap.size W1 wr) := ⟨ho, hb⟩
          clear ho hb HO HX
          by_cases hjt : j < rest.length
          · obtain ⟨y0, y1⟩ := (HV.out wr HP.out.2).cells j hjt
            have HT : Hid ((rest.drop k).take (j + 1 - k) = (rest.drop k).take (j - k) ++ [(rest[j].1, rest[j].2)]) := by
              show (rest.drop k).take (j + 1 - k) = _
              rw [show j + 1 - k = j - k + 1 by omega, List.take_succ_eq_append_getElem (by rw [List.length_drop]; omega), List.getElem_drop]
              simp only [show k + (j - k) = j by omega]
            generalize rest[j].1 = n1 at *
            generalize rest[j].2 = f1 at *
            have b1 := up0 wr (.cells #[.string ⟨n1.toArray⟩, .int .i64 (f1 : Int)] 70)
            obtain ⟨v', W2, hr, g3, -, g4⟩ := row_app1 tiE enE_len (Mg.row_kept HP.out.1 b1) (n1, f1) wr.heap.size 1 (enE_one _) (lb_new wr [.string ⟨n1.toArray⟩, .int .i64 (f1 : Int)] 70) (by simp only [List.length_append, List.length_take, List.length_drop, List.length_singleton]; have := HLN.out; omega) (Nat.le_trans HP.out.2.size b1.size) 40
            have HX : Hid (W2.ownsRow W1.heap.size 70 2 v' (rest.take k ++ [(s, f)] ++ (rest.drop k).take (j + 1 - k)).length ((rest.take k ++ [(s, f)] ++ (rest.drop k).take (j + 1 - k)).flatMap enE) ∧ Below W1.heap.size W1 W2) := ⟨by rw [HT.out, ← List.append_assoc]; exact g3, (andThen HP.out.2 b1).trans g4⟩
            clear b1 g3 g4
            go_wp2_with (at_builtin; refine wpList_appRun rfl (.tmp 45) (.tmp 50) 40 rfl rfl rfl hr ?_)
            clear hr
            go_wp2_with fail
            go_roundw
            case rel => exact ⟨j + 1, by omega, by omega, by go_num, HX.out.1, HX.out.2⟩
            case measure => simp [intOf]; omega
          · go_wp2_with fail
            go_returns
            have h9 := HP.out.1
            have e9 : (rest.drop k).take (j - k) = rest.drop k := List.take_of_length_le (by rw [List.length_drop]; omega)
            rw [e9, ← HIS.out] at h9
            exact ⟨_, rfl, (Rw.of h9).mono fun q hq => Nat.le_trans HB1.out.size hq, HB1.out.trans (HP.out.2.mono HB1.out.size)⟩
    · skip
      have HIS : Hid (Dk.put l s f = rest.take k ++ [(s, f)] ++ rest.drop k) := by
        show Dk.put l s f = _
        unfold Dk.put
        rw [← HRS.out]
        exact ins_split (s, f) rest k (by omega) HNE.out HN.out (fun h => by omega)
      have b1 := up0 wr (.cells #[.string ⟨s.toArray⟩, .int .i64 (f : Int)] 70)
      obtain ⟨v', W2, hr, g3, -, g4⟩ := row_app1 tiE enE_len (Mg.row_kept HO.out.1 b1) (s, f) wr.heap.size 1 (enE_one _) (lb_new wr [.string ⟨s.toArray⟩, .int .i64 (f : Int)] 70) (by rw [List.length_take]; have := HLN.out; omega) (Nat.le_trans HO.out.2.size b1.size) 40
      have HX : Hid (W2.ownsRow W1.heap.size 70 2 v' (rest.take k ++ [(s, f)]).length ((rest.take k ++ [(s, f)]).flatMap enE) ∧ Below W1.heap.size W1 W2) := ⟨g3, (andThen HO.out.2 b1).trans g4⟩
      clear b1 g3 g4
      go_wp2_with (at_builtin; refine wpList_appRun rfl (.tmp 35) (.tmp 39) 40 rfl rfl rfl hr ?_)
      clear hr
      go_wp2_with fail
      go_loopw [8, 9] (fun o i wx => ∃ j : Nat, k ≤ j ∧ j ≤ rest.length ∧ i = .int .i64 (j : Int) ∧ wx.ownsRow W1.heap.size 70 2 o (rest.take k ++ [(s, f)] ++ (rest.drop k).take (j - k)).length ((rest.take k ++ [(s, f)] ++ (rest.drop k).take (j - k)).flatMap enE) ∧ Below W1.heap.size W1 wx) (fun _ i _ => rest.length - (intOf i).toNat)
      case atStart => exact ⟨k, Nat.le_refl _, by omega, rfl, by simpa using HX.out.1, HX.out.2⟩
      case round =>
        obtain ⟨j, hj1, hj2, rfl, ho, hb⟩ := hrel
        have HP : Hid (wr.ownsRow W1.heap.size 70 2 u8 (rest.take k ++ [(s, f)] ++ (rest.drop k).take (j - k)).length ((rest.take k ++ [(s, f)] ++ (rest.drop k).take (j - k)).flatMap enE) ∧ Below W1.heap.size W1 wr) := ⟨ho, hb⟩
        clear ho hb HO HX
        by_cases hjt : j < rest.length
        · exfalso
          omega
        · go_wp2_with fail
          go_returns
          have h9 := HP.out.1
          have e9 : (rest.drop k).take (j - k) = rest.drop k := List.take_of_length_le (by rw [List.length_drop]; omega)
          rw [e9, ← HIS.out] at h9
          exact ⟨_, rfl, (Rw.of h9).mono fun q hq => Nat.le_trans HB1.out.size hq, HB1.out.trans (HP.out.2.mono HB1.out.size)⟩
set_option maxRecDepth 100000 in
set_option maxHeartbeats 8000000 in
theorem rkchanged_any (ok : Nat → Prop) (v : Value) (l : Dk.Nm) (c : RCh) (w : World) (h : En ok w v l) (hl : l.length ≤ 300000000) (hc : c.k = 2 → ∃ i, Dk.get l c.a = some i) :
    Calls Try.prog 31 #[v, .agg #[.int .i64 c.k, .string ⟨c.a.toArray⟩, .string ⟨c.b.toArray⟩, .int .i64 (c.f : Int)]] w fun e w' => ∃ v', e = .returned v' ∧ En (w.heap.size ≤ ·) w' v' (chd l c) ∧ Below w.heap.size w w' := by
  have HV : Hid (∀ W, Below w.heap.size w W → En ok W v l) := fun W hW => h.kept hW
  clear h
  obtain ⟨ck, ca, cb, cf⟩ := c
  simp only at hc
  have bw := up0 w (.cells #[.int .i64 ck, .string ⟨ca.toArray⟩, .string ⟨cb.toArray⟩, .int .i64 (cf : Int)] 81)
  have lw := lb_new w [.int .i64 ck, .string ⟨ca.toArray⟩, .string ⟨cb.toArray⟩, .int .i64 (cf : Int)] 81
  go_enter Try.func31, Try.ntmps31
  go_upto_region 1 with fail
  obtain ⟨p, hp⟩ : ∃ p, p = w.heap.size := ⟨_, rfl⟩
  obtain ⟨Wp, hWp⟩ : ∃ W, W = w.alloc (.cells #[.int .i64 ck, .string ⟨ca.toArray⟩, .string ⟨cb.toArray⟩, .int .i64 (cf : Int)] 81) := ⟨_, rfl⟩
  have lp : LB Wp p 81 [.int .i64 ck, .string ⟨ca.toArray⟩, .string ⟨cb.toArray⟩, .int .i64 (cf : Int)] := by rw [hWp, hp]; exact lw
  have HBP : Hid (Below w.heap.size w Wp) := by rw [hWp]; exact bw
  rw [← hWp, ← hp]
  have HLP : Hid (∀ W, Below Wp.heap.size Wp W → W.cell? ⟨p, 0, none⟩ = some (.int .i64 ck) ∧ W.cell? ⟨p, 1, none⟩ = some (.string ⟨ca.toArray⟩) ∧ W.cell? ⟨p, 2, none⟩ = some (.string ⟨cb.toArray⟩) ∧ W.cell? ⟨p, 3, none⟩ = some (.int .i64 (cf : Int))) := fun W hW => ⟨(lp.kept hW).cell 0 _ rfl, (lp.kept hW).cell 1 _ rfl, (lp.kept hW).cell 2 _ rfl, (lp.kept hW).cell 3 _ rfl⟩
  clear bw lw lp hWp hp
  obtain ⟨r0, r1, r2, r3⟩ := HLP.out Wp (Below.refl _ _)
  by_cases k1 : ck = 1
  · subst k1
    have HC : Hid (Calls Try.prog 39 #[v, .string ⟨ca.toArray⟩, .int .i64 (cf : Int)] Wp fun e w' => ∃ v', e = .returned v' ∧ En (Wp.heap.size ≤ ·) w' v' (Dk.put l ca cf) ∧ Below Wp.heap.size Wp w') := rkwith_any ok v l ca cf Wp (HV.out Wp HBP.out) (by omega)
    go_wp2_with fail
    refine HC.out.mono ?_
    rintro e W1 ⟨v1, rfl, e1, b1⟩
    have H9 : Hid (En (Wp.heap.size ≤ ·) W1 v1 (Dk.put l ca cf) ∧ Below Wp.heap.size Wp W1) := ⟨e1, b1⟩
    clear e1 b1 HC
    go_wp2_with fail
    go_returns
    exact ⟨_, rfl, H9.out.1.mono fun q hq => Nat.le_trans HBP.out.size hq, andThen HBP.out H9.out.2⟩
  · have x1 : (ck == 1) = false := beq_eq_false_iff_ne.2 k1
    by_cases k2 : ck = 2
    · subst k2
      obtain ⟨i, hi⟩ := hc rfl
      have HG : Hid (Dk.get l ca = some i) := hi
      have HC : Hid (Calls Try.prog 45 #[v, .string ⟨ca.toArray⟩] Wp fun e w' => ∃ (j : Nat) (h : j < l.length), e = .returned (.int .i64 (j : Int)) ∧ l[j].2 = i ∧ w' = Wp) := (rkfind_any ok v l ca Wp (HV.out Wp HBP.out)).mono fun e w' ⟨r, h1, h2, h3⟩ => by
        rcases h2 with ⟨-, hn⟩ | ⟨j, hj, rfl, -, hg⟩
        · rw [HG.out] at hn
          cases hn
        · rw [HG.out] at hg
          exact ⟨j, hj, h1, (Option.some.inj hg).symm, h3⟩
      clear hi hc k1
      go_wp2_with fail
      refine HC.out.mono ?_
      rintro e W1 ⟨j, hj, rfl, hji, rfl⟩
      obtain ⟨a, c, ev, h1, h2, h3⟩ := row_at (HV.out W1 HBP.out).row
      subst ev
      unfold maxLen at h2
      obtain ⟨b, hb⟩ := h3 (List.ne_nil_of_length_pos (by omega))
      subst hb
      obtain ⟨-, y1⟩ := (HV.out W1 HBP.out).cells j hj
      rw [hji] at y1
      have HC2 : Hid (Calls Try.prog 46 #[.slice (some ⟨b, 0, none⟩) l.length c, .string ⟨ca.toArray⟩] W1 fun e w' => ∃ v', e = .returned v' ∧ En (W1.heap.size ≤ ·) w' v' (Dk.del l ca) ∧ Below W1.heap.size W1 w') := rkwithout_any ok _ l ca W1 (HV.out W1 HBP.out) (by omega)
      clear HC hji
      go_wp2_with fail
      refine HC2.out.mono ?_
      rintro e W2 ⟨v2, rfl, e2, b2⟩
      obtain ⟨-, -, r2, -⟩ := HLP.out W2 b2
      have HC3 : Hid (Calls Try.prog 39 #[v2, .string ⟨cb.toArray⟩, .int .i64 (i : Int)] W2 fun e w' => ∃ v', e = .returned v' ∧ En (W2.heap.size ≤ ·) w' v' (Dk.put (Dk.del l ca) cb i) ∧ Below W2.heap.size W2 w') := rkwith_any _ v2 _ cb i W2 e2 (by have := Dk.len_del l ca; omega)
      have HB2 : Hid (Below W1.heap.size W1 W2) := b2
      clear e2 b2 HC2
      go_wp2_with fail
      refine HC3.out.mono ?_
      rintro e W3 ⟨v3, rfl, e3, b3⟩
      have H9 : Hid (En (W2.heap.size ≤ ·) W3 v3 (Dk.put (Dk.del l ca) cb i) ∧ Below W1.heap.size W1 W3) := ⟨e3, andThen HB2.out b3⟩
      clear e3 b3 HC3
      go_wp2_with fail
      go_returns
      have hE : chd l ⟨2, ca, cb, cf⟩ = Dk.put (Dk.del l ca) cb i := by
        show Dk.put (Dk.del l ca) cb ((Dk.get l ca).getD 0) = _
        rw [HG.out]
        rfl
      rw [hE]
      exact ⟨_, rfl, H9.out.1.mono fun q hq => Nat.le_trans (Nat.le_trans HBP.out.size HB2.out.size) hq, andThen HBP.out H9.out.2⟩
    · have x2 : (ck == 2) = false := beq_eq_false_iff_ne.2 k2
      have HK : Hid (¬ ck = 1 ∧ ¬ ck = 2) := ⟨k1, k2⟩
      have HC2 : Hid (Calls Try.prog 46 #[v, .string ⟨ca.toArray⟩] Wp fun e w' => ∃ v', e = .returned v' ∧ En (Wp.heap.size ≤ ·) w' v' (Dk.del l ca) ∧ Below Wp.heap.size Wp w') := rkwithout_any ok _ l ca Wp (HV.out Wp HBP.out) (by omega)
      clear hc k1 k2
      go_wp2_with fail
      refine HC2.out.mono ?_
      rintro e W2 ⟨v2, rfl, e2, b2⟩
      have H9 : Hid (En (Wp.heap.size ≤ ·) W2 v2 (Dk.del l ca) ∧ Below Wp.heap.size Wp W2) := ⟨e2, b2⟩
      clear e2 b2 HC2
      go_wp2_with fail
      go_returns
      have hE : chd l ⟨ck, ca, cb, cf⟩ = Dk.del l ca := by
        unfold chd
        rw [if_neg HK.out.1, if_neg HK.out.2]
      rw [hE]
      exact ⟨_, rfl, H9.out.1.mono fun q hq => Nat.le_trans HBP.out.size hq, andThen HBP.out H9.out.2⟩
end Go.Proofs.Ytgdfnlbiminblaa

/-
  The document's disk: a state in memory; named, set.
-/
namespace Go.Proofs.Ytgdfnlbiminblaa
open Go Go.RowKit Go.ChangeShapes
open Wb
open Rd
namespace Rd
/-- a state in memory, to be read -/
structure SM (ok : Nat → Prop) (w : World) (xs : List (Value × Th)) (nm la : Dk.Nm) (ch : List RCh) (tv nv lv cv : Value) : Prop where
  rt : Rw ok w 68 3 enT tv xs
  od : ∀ x ∈ xs, Own 0 w x.1 x.2.data ∧ ∀ q, x.1.ownBlock = some q → ok q
  rn : En ok w nv nm
  rl : En ok w lv la
  rc : Rw ok w 81 4 enG cv ch
section
variable {ok ok2 : Nat → Prop} {w w' : World} {xs : List (Value × Th)} {nm la : Dk.Nm} {ch : List RCh} {tv nv lv cv : Value}
theorem own_blk {B : Nat} {v : Value} {l : List Nat} (h : Own B w v l) (hb : ∀ q, v.ownBlock = some q → w'.heap[q]? = w.heap[q]?) : Own B w' v l := ⟨Mg.row_block h.row hb, h.good⟩
theorem SM.blk (h : SM ok w xs nm la ch tv nv lv cv) (hb : ∀ q, ok q → q < w.heap.size → w'.heap[q]? = w.heap[q]?) : SM ok w' xs nm la ch tv nv lv cv := ⟨h.rt.blk hb, fun x hx => ⟨own_blk (h.od x hx).1 fun q e => hb q ((h.od x hx).2 q e) (World.ownsRow.lt (h.od x hx).1.row q e).2, (h.od x hx).2⟩, h.rn.blk hb, h.rl.blk hb, h.rc.blk hb⟩
theorem SM.kept (h : SM ok w xs nm la ch tv nv lv cv) (hb : Below w.heap.size w w') : SM ok w' xs nm la ch tv nv lv cv := h.blk fun q _ hq => hb.block q hq
theorem SM.mono (h : SM ok w xs nm la ch tv nv lv cv) (hm : ∀ q, ok q → ok2 q) : SM ok2 w xs nm la ch tv nv lv cv := ⟨h.rt.mono hm, fun x hx => ⟨(h.od x hx).1, fun q e => hm q ((h.od x hx).2 q e)⟩, h.rn.mono hm, h.rl.mono hm, h.rc.mono hm⟩
/-- three boxes, one behind the other -/
theorem box3 (w : World) (A B C : List Value) (t1 t2 t3 : TypeId) : LB (((w.alloc (.cells A.toArray t1)).alloc (.cells B.toArray t2)).alloc (.cells C.toArray t3)) w.heap.size t1 A ∧ LB (((w.alloc (.cells A.toArray t1)).alloc (.cells B.toArray t2)).alloc (.cells C.toArray t3)) (w.heap.size + 1) t2 B ∧ LB (((w.alloc (.cells A.toArray t1)).alloc (.cells B.toArray t2)).alloc (.cells C.toArray t3)) (w.heap.size + 1 + 1) t3 C ∧ Below w.heap.size w (((w.alloc (.cells A.toArray t1)).alloc (.cells B.toArray t2)).alloc (.cells C.toArray t3)) := by
  obtain ⟨h1, h2, h3⟩ := lb_new2 w A B t1 t2
  have h4 := lb_new ((w.alloc (.cells A.toArray t1)).alloc (.cells B.toArray t2)) C t3
  rw [heap_one, heap_one] at h4
  exact ⟨h1.kept (up0 _ _), h2.kept (up0 _ _), h4, andThen h3 (up0 _ _)⟩
theorem os_set (w : World) (p : Addr) (v : Value) : (w.setCell p v).os = w.os := rfl
theorem tape_set (w : World) (p : Addr) (v : Value) : (w.setCell p v).tape = w.tape := rfl
theorem output_set (w : World) (p : Addr) (v : Value) : (w.setCell p v).output = w.output := rfl
/-- two boxes of the call's own are written -/
theorem below_fin {w W Wz : World} {p0 p2 : Nat} (far : ∀ q, q ≠ p0 → q ≠ p2 → Wz.heap[q]? = W.heap[q]?) (h : Wz.os = W.os ∧ Wz.tape = W.tape ∧ Wz.output = W.output ∧ Wz.heap.size = W.heap.size) (b : Below w.heap.size w W) (k1 : w.heap.size ≤ p0) (k2 : w.heap.size ≤ p2) : Below w.heap.size w Wz :=
  ⟨h.1.trans b.os, h.2.1.trans b.tape, h.2.2.1.trans b.output, by rw [h.2.2.2]; exact b.size, fun q hq => (far q (by omega) (by omega)).trans (b.block q hq)⟩
theorem rw_fin {α : Type} {c : Nat} {t : TypeId} {en : α → List Value} {v : Value} {ys : List α} {W Wz : World} {p0 p2 K B : Nat} (far : ∀ q, q ≠ p0 → q ≠ p2 → Wz.heap[q]? = W.heap[q]?) (h : Rw (K ≤ ·) W t c en v ys) (k0 : p0 < K) (k2 : p2 < K) (hB : B ≤ K) : Rw (B ≤ ·) Wz t c en v ys := (h.blk fun q hq _ => far q (by omega) (by omega)).mono fun q hq => Nat.le_trans hB hq
theorem results_cell_mid {P : Program} {fn : Func} {p : Tmp} {ty : TypeId} (h : fn.results = #[.cell p ty]) (tmps : Array Value) (w : World) (g : Nat) (cs : List Value) (d : TypeDesc)
    (hp : tmps.getD p undef = .pointer (some ⟨g, 0, none⟩)) (hc : w.rangeAt g 0 cs) (hu : P.underlying ty = some d) (hd : d.isRow = true) (hi : (P.info? ty).map (·.size) = some cs.length) :
    (results fn tmps).run P w = .ok (.agg cs.toArray) w := by
  have hp' : tmps[p]?.getD undef = .pointer (some ⟨g, 0, none⟩) := by simpa using hp
  simp [results, h, hp', asAddr, run_loadVar_mid w g 0 ty cs d hc hu hd hi]
theorem rw_slice {α : Type} {c : Nat} {t : TypeId} {en : α → List Value} {v : Value} {ys : List α} (h : Rw ok w t c en v ys) : ∃ a k, v = .slice a ys.length k := by
  obtain ⟨a, k, e, -⟩ := row_at h.row
  exact ⟨a, k, e⟩
end
end Rd
end Go.Proofs.Ytgdfnlbiminblaa

/-
  The document's disk: set, into, path, taken.
-/
namespace Go.Proofs.Ytgdfnlbiminblaa
open Go Go.RowKit Go.ChangeShapes
open Wb
open Rd
namespace Rd
theorem set3 (y : Value × Th) (r : List Value) (a b c : Value) : (((enT y ++ r).set 0 a).set 1 b).set 2 c = [a, b, c] ++ r := by
  simp [enT]
theorem flat_set3 (x : Value × Th) : ∀ (xs : List (Value × Th)) (f : Nat), f < xs.length → (((xs.flatMap enT).set (f * 3) x.1).set (f * 3 + 1) (.int .i64 (x.2.syn : Int))).set (f * 3 + 2) (.bool x.2.there) = (xs.set f x).flatMap enT
  | [], f, h => by simp at h
  | y :: r, 0, _ => by
    rw [List.flatMap_cons, Nat.zero_mul, Nat.zero_add, set3]
    rfl
  | y :: r, f + 1, h => by
    have h9 := flat_set3 x r f (by simpa using h)
    rw [List.flatMap_cons, List.set_cons_succ, List.flatMap_cons, ← h9]
    have hl : (enT y).length = 3 := rfl
    rw [List.set_append_right _ _ (by omega), List.set_append_right _ _ (by omega), List.set_append_right _ _ (by omega), hl, show (f + 1) * 3 - 3 = f * 3 by omega, show (f + 1) * 3 + 1 - 3 = f * 3 + 1 by omega, show (f + 1) * 3 + 2 - 3 = f * 3 + 2 by omega]
theorem enT_one {x : Value × Th} (h : ∃ a n c, x.1 = .slice a n c) : ∀ u ∈ enT x, u.oneCell' = true := fun u hu => by
  obtain ⟨a, n, c, e⟩ := h
  simp [enT] at hu
  rcases hu with rfl | rfl | rfl
  · rw [e]
    rfl
  · rfl
  · rfl
end Rd
theorem rkinto_any (n lo hi : Int) (w : World) : Calls Try.prog 30 #[.int .i64 n, .int .i64 lo, .int .i64 hi] w fun e w' => e = .returned (.int .i64 (if n < lo then lo else if n > hi then hi else n)) ∧ w' = w := by
  by_cases h1 : n < lo
  · rw [if_pos h1]
    go_enter Try.func30, Try.ntmps30
    go_wp2
    go_returns
    exact ⟨rfl, rfl⟩
  · rw [if_neg h1]
    by_cases h2 : n > hi
    · rw [if_pos h2]
      have d2 : (hi < n) = True := eq_true h2
      go_enter Try.func30, Try.ntmps30
      go_wp2
      go_returns
      exact ⟨rfl, rfl⟩
    · rw [if_neg h2]
      have d2 : (hi < n) = False := eq_false h2
      go_enter Try.func30, Try.ntmps30
      go_wp2
      go_returns
      exact ⟨rfl, rfl⟩
theorem Rd.into_wth (n hi : Int) (h : 0 ≤ hi) : (if n < 0 then 0 else if n > hi then hi else n) = Dk.wth n hi := by
  unfold Dk.wth
  by_cases h1 : n < 0
  · rw [if_pos h1]
    omega
  · rw [if_neg h1]
    by_cases h2 : n > hi
    · rw [if_pos h2]
      omega
    · rw [if_neg h2]
      omega
set_option maxRecDepth 100000 in
set_option maxHeartbeats 4000000 in
theorem rkpath_any (s : ByteArray) (w : World) (hs : s.size ≤ maxLen) : Calls Try.prog 24 #[.string s] w fun e w' => e = .returned (.bool (Dk.isNm s.data.toList)) ∧ w' = w := by
  obtain ⟨l, hl⟩ : ∃ l, l = s.data.toList := ⟨_, rfl⟩
  have hsz : s.size = l.length := by rw [hl]; rfl
  rw [← hl]
  have HL : Hid (l = s.data.toList ∧ s.size = l.length) := ⟨hl, hsz⟩
  unfold maxLen at hs
  clear hl hsz
  go_enter Try.func24, Try.ntmps24
  go_wp2
  go_loopw [3] (fun i wr => ∃ k : Nat, k ≤ s.size ∧ i = .int .i64 (k : Int) ∧ (l.take k).all Dk.okc = true ∧ wr = w) (fun i _ => s.size - (intOf i).toNat)
  case atStart => exact ⟨0, Nat.zero_le _, rfl, rfl, rfl⟩
  case round =>
    obtain ⟨k, hk, rfl, hall, rfl⟩ := hrel
    have HA : Hid ((l.take k).all Dk.okc = true) := hall
    clear hall
    by_cases hlt : k < s.size
    · have hkl : k < l.length := by have := HL.out; omega
      have hcl : l[k] = s[k] := by
        have h9 := HL.out.1
        subst h9
        rfl
      have HC : Hid (l.take (k + 1) = l.take k ++ [s[k]]) := by
        rw [← hcl]
        exact List.take_succ_eq_append_getElem hkl
      have HM : Hid (s[k] ∈ l) := by rw [← hcl]; exact List.getElem_mem hkl
      have HBAD : Hid (Dk.okc s[k] = false → Dk.isNm l = false) := fun h => by
        show Dk.isNm l = false
        unfold Dk.isNm
        have e : l.all Dk.okc = false := by
          rw [List.all_eq_false]
          exact ⟨_, HM.out, by rw [h]; simp⟩
        rw [e, Bool.and_false]
      clear hcl hkl
      by_cases h1 : s[k].toNat < 33
      · have d1 : ((s[k].toNat : Int) < 33) = True := by simp; omega
        have HE : Hid (Dk.isNm l = false) := HBAD.out (by unfold Dk.okc; exact decide_eq_false (by omega))
        clear h1
        go_wp2
        go_returns
        exact ⟨by rw [HE.out]; rfl, rfl⟩
      · have d1 : ((s[k].toNat : Int) < 33) = False := by simp; omega
        by_cases h2 : 126 < s[k].toNat
        · have d2 : (126 < (s[k].toNat : Int)) = True := by simp; omega
          have HE : Hid (Dk.isNm l = false) := HBAD.out (by unfold Dk.okc; exact decide_eq_false (by omega))
          clear h1 h2
          go_wp2
          go_returns
          exact ⟨by rw [HE.out]; rfl, rfl⟩
        · have d2 : (126 < (s[k].toNat : Int)) = False := by simp; omega
          by_cases h3 : s[k].toNat = 47
          · have d3 : ((s[k].toNat : Int) == 47) = true := by rw [h3]; rfl
            have HE : Hid (Dk.isNm l = false) := HBAD.out (by unfold Dk.okc; exact decide_eq_false (by omega))
            clear h1 h2 h3
            go_wp2
            go_returns
            exact ⟨by rw [HE.out]; rfl, rfl⟩
          · have d3 : ((s[k].toNat : Int) == 47) = false := by simp only [beq_eq_false_iff_ne, ne_eq]; omega
            have HE : Hid ((l.take (k + 1)).all Dk.okc = true) := by
              have h9 := HA.out
              show List.all _ _ = true
              rw [HC.out, List.all_append, h9]
              simp only [List.all_cons, List.all_nil, Bool.and_true, Bool.true_and]
              unfold Dk.okc
              exact decide_eq_true ⟨by omega, by omega, h3⟩
            clear h1 h2 h3
            go_wp2
            go_roundw
            case rel => exact ⟨k + 1, by omega, by go_num, HE.out, trivial⟩
            case measure => simp [intOf]; omega
    · have HE : Hid (Dk.isNm l = decide (l ≠ [] ∧ l.length ≤ 40)) := by
        have h9 := HL.out
        have h8 := HA.out
        rw [List.take_of_length_le (by omega)] at h8
        show Dk.isNm l = _
        unfold Dk.isNm
        rw [h8, Bool.and_true]
      by_cases h0 : s.size = 0
      · have d0 : (1 ≤ (s.size : Int)) = False := by simp; omega
        have HF : Hid (Dk.isNm l = false) := by
          show Dk.isNm l = false
          rw [HE.out]
          exact decide_eq_false fun h => h.1 (List.eq_nil_of_length_eq_zero (by have := HL.out.2; omega))
        clear h0
        go_wp2
        go_returns
        exact ⟨by rw [HF.out]; rfl, rfl⟩
      · have d0 : (1 ≤ (s.size : Int)) = True := by simp; omega
        by_cases h4 : s.size ≤ 40
        · have d4 : ((s.size : Int) ≤ 40) = True := by simp; omega
          have HF : Hid (Dk.isNm l = true) := by
            show Dk.isNm l = true
            rw [HE.out]
            exact decide_eq_true ⟨fun e => by have := HL.out.2; rw [e] at this; exact h0 this, by have := HL.out.2; omega⟩
          clear h0 h4
          go_wp2
          go_returns
          exact ⟨by rw [HF.out]; rfl, rfl⟩
        · have d4 : ((s.size : Int) ≤ 40) = False := by simp; omega
          have HF : Hid (Dk.isNm l = false) := by
            show Dk.isNm l = false
            rw [HE.out]
            exact decide_eq_false fun h => by have := HL.out.2; omega
          clear h0 h4
          go_wp2
          go_returns
          exact ⟨by rw [HF.out]; rfl, rfl⟩
theorem Rd.tkn_take (th : List Th) (k : Nat) (h : k < th.length) : tkn (th.take (k + 1)) = tkn (th.take k) + if th[k].there = true then th[k].data.length else 0 := by
  unfold tkn
  rw [List.take_succ_eq_append_getElem h, List.map_append, List.sum_append]
  simp
theorem Rd.tkn_le (th : List Th) (k : Nat) : tkn (th.take k) ≤ tkn th := by
  unfold tkn
  rw [List.map_take]
  exact sum_take _ _
end Go.Proofs.Ytgdfnlbiminblaa

/-
  The document's disk: lasting.
-/
namespace Go.Proofs.Ytgdfnlbiminblaa
open Go Go.RowKit Go.ChangeShapes
open Wb
open Rd
namespace Rd
/-- the things behind a SyncDir -/
def lsx (xs : List (Value × Th)) (nm : Dk.Nm) : List (Value × Th) := xs.mapIdx fun k x => if (nm.any fun p => p.2 == k) = true then (x.1, ⟨x.2.data, x.2.syn, true⟩) else (.slice none 0 0, ⟨[], 0, false⟩)
theorem lsx_len (xs : List (Value × Th)) (nm : Dk.Nm) : (lsx xs nm).length = xs.length := by unfold lsx; rw [List.length_mapIdx]
theorem lsx_take (xs : List (Value × Th)) (nm : Dk.Nm) (k : Nat) (h : k < xs.length) : (lsx xs nm).take (k + 1) = (lsx xs nm).take k ++ [if (nm.any fun p => p.2 == k) = true then (xs[k].1, ⟨xs[k].2.data, xs[k].2.syn, true⟩) else (.slice none 0 0, ⟨[], 0, false⟩)] := by
  rw [List.take_succ_eq_append_getElem (by rw [lsx_len]; exact h)]
  unfold lsx
  rw [List.getElem_mapIdx]
theorem lsx_th (xs : List (Value × Th)) (nm : Dk.Nm) : (lsx xs nm).map (·.2) = (xs.map (·.2)).mapIdx (fun k t => if (nm.any fun p => p.2 == k) = true then (⟨t.data, t.syn, true⟩ : Th) else ⟨[], 0, false⟩) := by
  refine List.ext_getElem (by simp [lsx]) fun i h1 h2 => ?_
  rw [List.getElem_map, List.getElem_mapIdx, List.getElem_map]
  simp only [lsx, List.getElem_mapIdx]
  split <;> rfl
theorem any_take (nm : Dk.Nm) (k j : Nat) (h : j < nm.length) : ((nm.take (j + 1)).any fun p => p.2 == k) = (((nm.take j).any fun p => p.2 == k) || nm[j].2 == k) := by
  rw [List.take_succ_eq_append_getElem h, List.any_append]
  simp
end Rd
end Go.Proofs.Ytgdfnlbiminblaa

/-
  The document's disk: act.
-/
namespace Go.Proofs.Ytgdfnlbiminblaa
open Go Go.RowKit Go.ChangeShapes
open Wb
open Rd
namespace Rd
/-- a state's value -/
def StM (ok : Nat → Prop) (w : World) (R : RS) (v : Value) : Prop := ∃ xs tv nv lv cv, v = .agg #[tv, nv, lv, cv] ∧ R.th = xs.map (·.2) ∧ SM ok w xs R.nm R.la R.ch tv nv lv cv
section
variable {ok ok2 : Nat → Prop} {w w' : World} {xs : List (Value × Th)} {nm la : Dk.Nm} {ch : List RCh} {tv nv lv cv : Value}
theorem Rw.lo {α : Type} {c : Nat} {t : TypeId} {en : α → List Value} {v : Value} {ys : List α} (h : Rw ok w t c en v ys) : Rw (fun q => ok q ∧ q < w.heap.size) w t c en v ys := ⟨h.row, fun q e => ⟨h.ok q e, (World.ownsRow.lt h.row q e).2⟩⟩
theorem SM.lo (h : SM ok w xs nm la ch tv nv lv cv) : SM (fun q => ok q ∧ q < w.heap.size) w xs nm la ch tv nv lv cv := ⟨h.rt.lo, fun x hx => ⟨(h.od x hx).1, fun q e => ⟨(h.od x hx).2 q e, (World.ownsRow.lt (h.od x hx).1.row q e).2⟩⟩, h.rn.lo, h.rl.lo, h.rc.lo⟩
theorem SM.slice (h : SM ok w xs nm la ch tv nv lv cv) : ∀ y ∈ xs, ∃ a n c, y.1 = .slice a n c := fun y hy => by
  obtain ⟨a, c, e, -⟩ := Mg.row_shape (h.od y hy).1.row
  exact ⟨a, _, c, e⟩
theorem SM.other (h : SM ok w xs nm la ch tv nv lv cv) {nm' la' : Dk.Nm} {ch' : List RCh} {nv' lv' cv' : Value} (h1 : En ok w nv' nm') (h2 : En ok w lv' la') (h3 : Rw ok w 81 4 enG cv' ch') : SM ok w xs nm' la' ch' tv nv' lv' cv' := ⟨h.rt, h.od, h1, h2, h3⟩
theorem od_snoc (h : ∀ x ∈ xs, Own 0 w x.1 x.2.data ∧ ∀ q, x.1.ownBlock = some q → ok q) (v : Value) (t : Th) (h1 : Own 0 w v t.data) (h2 : ∀ q, v.ownBlock = some q → ok q) : ∀ x ∈ xs ++ [(v, t)], Own 0 w x.1 x.2.data ∧ ∀ q, x.1.ownBlock = some q → ok q := fun x hx => by
  rcases List.mem_append.1 hx with e | e
  · exact h x e
  · rw [List.mem_singleton.1 e]
    exact ⟨h1, h2⟩
theorem od_set (h : ∀ x ∈ xs, Own 0 w x.1 x.2.data ∧ ∀ q, x.1.ownBlock = some q → ok q) (i : Nat) (v : Value) (t : Th) (h1 : Own 0 w v t.data) (h2 : ∀ q, v.ownBlock = some q → ok q) : ∀ x ∈ xs.set i (v, t), Own 0 w x.1 x.2.data ∧ ∀ q, x.1.ownBlock = some q → ok q := fun x hx => by
  rcases List.mem_or_eq_of_mem_set hx with e | e
  · exact h x e
  · rw [e]
    exact ⟨h1, h2⟩
theorem lsx_od (h : ∀ x ∈ xs, Own 0 w x.1 x.2.data ∧ ∀ q, x.1.ownBlock = some q → ok q) : ∀ x ∈ lsx xs nm, Own 0 w x.1 x.2.data ∧ ∀ q, x.1.ownBlock = some q → ok q := fun x hx => by
  unfold lsx at hx
  obtain ⟨i, hi, e⟩ := List.mem_mapIdx.1 hx
  have h9 := h _ (List.getElem_mem hi)
  rw [← e]
  split
  · exact h9
  · exact ⟨Own.nil _ _, fun q e => by cases e⟩
theorem st_fin {Wz : World} {p2 p4 p7 : Nat} {R : RS} (h : SM ok2 w xs nm la ch tv nv lv cv) (far : ∀ q, q ≠ p2 → q ≠ p4 → q ≠ p7 → Wz.heap[q]? = w.heap[q]?) (h2 : ∀ q, ok2 q → q ≠ p2 ∧ q ≠ p4 ∧ q ≠ p7) (hm : ∀ q, ok2 q → ok q) (hR : R.th = xs.map (·.2) ∧ R.nm = nm ∧ R.la = la ∧ R.ch = ch) : StM ok Wz R (.agg #[tv, nv, lv, cv]) := by
  obtain ⟨r1, rfl, rfl, rfl⟩ := hR
  exact ⟨xs, tv, nv, lv, cv, rfl, r1, (h.blk fun q hq _ => far q (h2 q hq).1 (h2 q hq).2.1 (h2 q hq).2.2).mono hm⟩
end
theorem row_cellx {α : Type} {en : α → List Value} {c B : Nat} {w : World} {t : TypeId} {xs : List α} (hen : ∀ x, (en x).length = c) {b k : Nat} (h : w.ownsRow B t c (.slice (some ⟨b, 0, none⟩) xs.length k) xs.length (xs.flatMap en)) (j : Nat) (x : α) (hx : xs[j]? = some x) (i : Nat) (u : Value) (hu : (en x)[i]? = some u) : w.cell? ⟨b, j * c + i, none⟩ = some u := by
  obtain ⟨hj, e⟩ := List.getElem?_eq_some_iff.1 hx
  have hi : i < c := by
    rw [← hen x]
    exact (List.getElem?_eq_some_iff.1 hu).1
  rw [row_cell hen h j hj i hi, e, hu]
theorem into_min (ts m : Nat) : (if (ts : Int) < 0 then 0 else if (ts : Int) > (m : Int) then (m : Int) else (ts : Int)) = ((min ts m : Nat) : Int) := by
  rw [if_neg (by omega)]
  split <;> omega
theorem ract_k (R : RS) (o : Rop) : (o.k = 1 → ract R o = nmd { R with th := R.th ++ [⟨[], 0, true⟩] } ⟨1, o.a.data.toList, [], R.th.length⟩) ∧ (o.k = 2 → ract R o = { R with th := R.th.set (thn R o) ⟨(tha R o).data ++ o.data, (tha R o).syn, (tha R o).there⟩ }) ∧ (o.k = 3 → ract R o = { R with th := R.th.set (thn R o) ⟨(tha R o).data, (tha R o).data.length, (tha R o).there⟩ }) ∧ (o.k = 4 → ract R o = { R with th := R.th.set (thn R o) ⟨(tha R o).data.take o.n.toNat, min (tha R o).syn o.n.toNat, (tha R o).there⟩ }) ∧ (o.k = 5 → ract R o = nmd R ⟨2, o.a.data.toList, o.b.data.toList, 0⟩) ∧ (o.k = 6 → ract R o = nmd R ⟨3, o.a.data.toList, [], 0⟩) ∧ (o.k = 7 → ract R o = lsg R) := by
  unfold ract
  refine ⟨fun k => ?_, fun k => ?_, fun k => ?_, fun k => ?_, fun k => ?_, fun k => ?_, fun k => ?_⟩ <;> rw [k] <;> rfl
end Rd
end Go.Proofs.Ytgdfnlbiminblaa

/-
  The document's disk: refused.
-/
namespace Go.Proofs.Ytgdfnlbiminblaa
open Go Go.RowKit Go.ChangeShapes
open Wb
open Rd
namespace Rd
/-- a disk's value -/
def RdM (ok : Nat → Prop) (w : World) (R : RS) (v : Value) : Prop := ∃ xs tv nv lv cv, v = .agg #[.int .i64 R.quota, tv, nv, lv, cv, .int .i64 R.left, .bool R.down] ∧ R.th = xs.map (·.2) ∧ SM ok w xs R.nm R.la R.ch tv nv lv cv
theorem StM.kept {ok : Nat → Prop} {w w' : World} {R : RS} {v : Value} (h : StM ok w R v) (hb : Below w.heap.size w w') : StM ok w' R v := by
  obtain ⟨xs, tv, nv, lv, cv, e, h1, h2⟩ := h
  exact ⟨xs, tv, nv, lv, cv, e, h1, h2.kept hb⟩
theorem StM.blk {ok : Nat → Prop} {w w' : World} {R : RS} {v : Value} (h : StM ok w R v) (hb : ∀ q, ok q → q < w.heap.size → w'.heap[q]? = w.heap[q]?) : StM ok w' R v := by
  obtain ⟨xs, tv, nv, lv, cv, e, h1, h2⟩ := h
  exact ⟨xs, tv, nv, lv, cv, e, h1, h2.blk hb⟩
theorem StM.mono {ok ok2 : Nat → Prop} {w : World} {R : RS} {v : Value} (h : StM ok w R v) (hm : ∀ q, ok q → ok2 q) : StM ok2 w R v := by
  obtain ⟨xs, tv, nv, lv, cv, e, h1, h2⟩ := h
  exact ⟨xs, tv, nv, lv, cv, e, h1, h2.mono hm⟩
theorem RdM.kept {ok : Nat → Prop} {w w' : World} {R : RS} {v : Value} (h : RdM ok w R v) (hb : Below w.heap.size w w') : RdM ok w' R v := by
  obtain ⟨xs, tv, nv, lv, cv, e, h1, h2⟩ := h
  exact ⟨xs, tv, nv, lv, cv, e, h1, h2.kept hb⟩
theorem RdM.blk {ok : Nat → Prop} {w w' : World} {R : RS} {v : Value} (h : RdM ok w R v) (hb : ∀ q, ok q → q < w.heap.size → w'.heap[q]? = w.heap[q]?) : RdM ok w' R v := by
  obtain ⟨xs, tv, nv, lv, cv, e, h1, h2⟩ := h
  exact ⟨xs, tv, nv, lv, cv, e, h1, h2.blk hb⟩
theorem RdM.mono {ok ok2 : Nat → Prop} {w : World} {R : RS} {v : Value} (h : RdM ok w R v) (hm : ∀ q, ok q → ok2 q) : RdM ok2 w R v := by
  obtain ⟨xs, tv, nv, lv, cv, e, h1, h2⟩ := h
  exact ⟨xs, tv, nv, lv, cv, e, h1, h2.mono hm⟩
end Rd
end Go.Proofs.Ytgdfnlbiminblaa

/-
  The document's disk: Do, Arm.
-/
namespace Go.Proofs.Ytgdfnlbiminblaa
open Go Go.RowKit Go.ChangeShapes
open Wb
open Rd
theorem results_cell_slot {P : Program} {fn : Func} {p s : Tmp} {ty : TypeId} (h : fn.results = #[.cell p ty, .tmp s]) (tmps : Array Value) (w : World) (g : Nat) (cs : List Value) (d : TypeDesc)
    (hp : tmps.getD p undef = .pointer (some ⟨g, 0, none⟩)) (hc : w.rangeAt g 0 cs) (hu : P.underlying ty = some d) (hd : d.isRow = true) (hi : (P.info? ty).map (·.size) = some cs.length) :
    (results fn tmps).run P w = .ok (.tuple #[.agg cs.toArray, tmps.getD s undef]) w := by
  have hp' : tmps[p]?.getD undef = .pointer (some ⟨g, 0, none⟩) := by simpa using hp
  simp [results, h, hp', asAddr, run_loadVar_mid w g 0 ty cs d hc hu hd hi]
namespace Rd
theorem dk_fin {ok ok2 : Nat → Prop} {w Wz : World} {xs : List (Value × Th)} {nm la : Dk.Nm} {ch : List RCh} {tv nv lv cv : Value} {p2 p4 p7 : Nat} {R : RS} {q l : Int} {d : Bool} (h : SM ok2 w xs nm la ch tv nv lv cv) (far : ∀ q, q ≠ p2 → q ≠ p4 → q ≠ p7 → Wz.heap[q]? = w.heap[q]?) (h2 : ∀ q, ok2 q → q ≠ p2 ∧ q ≠ p4 ∧ q ≠ p7) (hm : ∀ q, ok2 q → ok q) (hR : R.th = xs.map (·.2) ∧ R.nm = nm ∧ R.la = la ∧ R.ch = ch ∧ R.quota = q ∧ R.left = l ∧ R.down = d) : RdM ok Wz R (.agg #[.int .i64 q, tv, nv, lv, cv, .int .i64 l, .bool d]) := by
  obtain ⟨r1, rfl, rfl, rfl, rfl, rfl, rfl⟩ := hR
  exact ⟨xs, tv, nv, lv, cv, rfl, r1, (h.blk fun q hq _ => far q (h2 q hq).1 (h2 q hq).2.1 (h2 q hq).2.2).mono hm⟩
end Rd
end Go.Proofs.Ytgdfnlbiminblaa

/-
  The document's disk: Arm, Read, List, Free.
-/
namespace Go.Proofs.Ytgdfnlbiminblaa
open Go Go.RowKit Go.ChangeShapes
open Wb
open Rd
end Go.Proofs.Ytgdfnlbiminblaa
