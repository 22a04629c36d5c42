import Derived.Test.YtneifdbcjicfgaaDoorQL
/-
  The reference: Unquote.
-/
namespace Go.Proofs.YtneifdbcjicfgaaDoor
open Go Go.RowKit Go.Lib
open Tx

theorem Tx.stray_drop (s : ByteArray) (a i : Nat) (h : a + i < s.size) : stray (s.extract a s.size) i = stray s (a + i) := by
  unfold stray
  rw [decode_drop s a i h, at_from s a i h]
/-- append(v, x..) of bytes that lie somewhere -/
theorem wpList_app_sl {P : Program} (w : World) {ops : Array Oper} {rest : List Oper} {o : Oper} {a : Act} {Q : Exit → Act → World → Prop} (hgd : o.guard = none) (s x : Operand) (t : TypeId)
    (ho : o.op = .call { callee := .builtin .append, args := #[s, x], argTypes := #[t, t] })
    (B : Nat) (hinfo : ∃ i, P.info? 5 = some i ∧ i.zero = some (.int .u8 0) ∧ i.size = 1 ∧ i.bytes = 1) (ht : P.underlying t = some (.slice 5))
    (v : Value) (l : List UInt8) (hv : a.eval s = v) (h : Ro B w v l) (g n c : Nat) (m : List UInt8) (hx : a.eval x = .slice (some ⟨g, 0, none⟩) n c) (hn : n = m.length) (hc : ∀ j (h : j < m.length), w.cell? ⟨g, j, none⟩ = some (.int .u8 (m[j].toNat : Int))) (hl : l.length ≤ 100000000) (hm : m.length ≤ 100) (hB : B ≤ w.heap.size)
    (hK : ∀ v' w', Ro B w' v' (l ++ m) → w.grownBy w' v.ownBlock → wpList P ops Q rest (a.put o.dst v') w') : wpList P ops Q (o :: rest) a w := by
  obtain ⟨i, hi, hz, h1, h2⟩ := hinfo
  subst hn
  refine wpList_append_own w hgd s x t ho B 5 i (.int .u8 0) 1 1 ht hi hz h1 h2 rfl (by decide) v l.length (bc l) hv h ⟨g, 0, none⟩ m.length c (bc m) hx (by rw [bc_len, Nat.mul_one]) ?_ (by intro u hu; simp [bc] at hu; obtain ⟨b, _, rfl⟩ := hu; rfl) (by unfold maxLen; omega) (by omega) hB fun v' w' h3 h4 _ => hK v' w' ?_ h4
  · intro j u hj
    have hjl : j < m.length := by have := (List.getElem?_eq_some_iff.1 hj).1; rwa [bc_len] at this
    rw [Addr.add_lit, Nat.zero_add, hc j hjl]
    simp [bc, hjl] at hj
    rw [← hj]
  · show w'.ownsRow B 5 1 v' (l ++ m).length (bc (l ++ m))
    have e2 : bc (l ++ m) = bc l ++ bc m := by simp [bc]
    rw [List.length_append, e2]
    exact h3
theorem ret3 (v : Value) (a b c d : Int) (h : a = b) (h2 : c = d) : Ending.returned (.tuple #[v, .int .i64 a, .int .i64 c]) = Ending.returned (.tuple #[v, .int .i64 b, .int .i64 d]) := by rw [h, h2]

set_option maxRecDepth 100000 in
set_option maxHeartbeats 4000000 in
theorem runq_in (s : ByteArray) (k : Nat) (w : World) (hs : s.size ≤ 200000) (hlt : k < s.size) (h34 : (s[k]'hlt).toNat = 34) (hT : TabP 3 .i64 hids w) :
    Calls Tryd.prog 49 #[.string s, .int .i64 (k : Int)] w fun e w' => e = .returned (.tuple #[.string (unq s k).1, .int .i64 (unq s k).2.1, .int .i64 (unq s k).2.2]) ∧ Below w.heap.size w w' := by
  have hin := info5q
  have HT : Hid (∀ w', Below w.heap.size w w' → TabP 3 .i64 hids w') := fun w' hb => hT.kept hb
  have t2 : ((k : Int) == (s.size : Int)) = false := by rw [beq_eq_false_iff_ne]; omega
  have t3 : decide (s.size < k) = false := by rw [decide_eq_false_iff_not]; omega
  have t4 : decide ((k : Int) < 0) = false := by rw [decide_eq_false_iff_not]; omega
  have hzs := size_cut s (k + 1) s.size (Nat.le_refl _)
  have HU : Hid (unq s k = if (con (s.extract (k + 1) s.size) 0 [] 0).2.2 ≠ 0 then (⟨#[]⟩, 0, ((con (s.extract (k + 1) s.size) 0 [] 0).2.2 : Int)) else if quo (con (s.extract (k + 1) s.size) 0 [] 0).1 ≠ s.extract k (k + 1 + (con (s.extract (k + 1) s.size) 0 [] 0).2.1) then (⟨#[]⟩, 0, 28) else ((con (s.extract (k + 1) s.size) 0 [] 0).1, ((k + 1 + (con (s.extract (k + 1) s.size) 0 [] 0).2.1 : Nat) : Int), 0)) := by
    show _ = _
    unfold unq
    rw [if_neg (by omega), if_neg (by rw [Int.toNat_natCast, at_get s k hlt]; omega), Int.toNat_natCast]
  have HAT : Hid (∀ q, k + 1 + q < s.size → at' (s.extract (k + 1) s.size) q = at' s (k + 1 + q)) := fun q h => at_from s (k + 1) q h
  have HDE : Hid (∀ q, k + 1 + q < s.size → Utf8.decode (s.extract (k + 1) s.size) q = Utf8.decode s (k + 1 + q)) := fun q h => decode_drop s (k + 1) q h
  have HST : Hid (∀ q, k + 1 + q < s.size → stray (s.extract (k + 1) s.size) q = stray s (k + 1 + q)) := fun q h => stray_drop s (k + 1) q h
  have HCC : Hid (∀ q, k + 1 + q ≤ s.size → (s.extract (k + 1) s.size).extract q (s.extract (k + 1) s.size).size = s.extract (k + 1 + q) s.size) := fun q h => cut_cut s (k + 1) q h
  generalize s.extract (k + 1) s.size = z at *
  obtain ⟨X, hX⟩ : ∃ X, con z 0 [] 0 = X := ⟨_, rfl⟩
  rw [hX] at HU
  have HX : Hid (con z 0 [] 0 = X) := hX
  have HZS : Hid (z.size = s.size - (k + 1)) := hzs
  have HRO : Hid (Ro w.heap.size w (.slice none 0 0) []) := ro_nil _ _
  clear hT hX hzs
  go_enter Tryd.func49, Tryd.ntmps49
  go_wp2
  go_loopw [7, 8] (fun o i wr => ∃ (q : Nat) (L : List UInt8) (E : Nat), i = .int .i64 ((k : Int) + 1 + (q : Int)) ∧ Ro w.heap.size wr o L ∧ con z q L E = X ∧ E ≤ q ∧ L.length ≤ 4 * q ∧ k + 1 + q ≤ s.size ∧ Below w.heap.size w wr) (fun _ i _ => s.size - (intOf i).toNat)
  case atStart => exact ⟨0, [], 0, by simp, HRO.out, HX.out, Nat.le_refl _, by simp, by omega, Below.refl _ _⟩
  case round =>
    obtain ⟨q, L, E, rfl, hro, hcon, hE, hlen, hq, hbel⟩ := hrel
    have HC : Hid (con z q L E = X) := hcon
    clear hcon HX HRO
    obtain ⟨ao3, cap3, rfl⟩ := hro.shape
    by_cases hiq : k + 1 + q < s.size
    · have hzq : q < z.size := by rw [HZS.out]; omega
      have g1 := at_get s (k + 1 + q) hiq
      have hcl := at_lt s (k + 1 + q)
      have HA := HAT.out q hiq
      have HHA : Hid (at' z q = at' s (k + 1 + q)) := HA
      clear HA
      obtain ⟨c, hc⟩ : ∃ c, at' s (k + 1 + q) = c := ⟨_, rfl⟩
      have hcc : (s[k + 1 + q]'hiq).toNat = c := by rw [← g1]; exact hc
      have HZC : Hid (at' z q = c) := HHA.out.trans hc
      by_cases c34 : c = 34
      · subst c34
        have HXX : Hid (X = (⟨L.toArray⟩, q + 1, 0)) := by
          show _ = _
          rw [← HC.out]
          exact con_q z q L E hzq (by omega) (by rw [dec_ascii z q (by rw [HZC.out]; decide)]; exact HZC.out)
        have hcv := hro.str2
        have hLs : (⟨L.toArray⟩ : ByteArray).size = L.length := by show L.toArray.size = _; simp
        have HRQ : Hid (∀ w', Below w.heap.size w w' → Calls Tryd.prog 66 #[.string ⟨L.toArray⟩] w' fun e w'' => e = .returned (.string (quo ⟨L.toArray⟩)) ∧ Below w'.heap.size w' w'') := fun w' hb => rquote_any _ w' (by rw [hLs]; omega) (HT.out _ hb)
        rw [HXX.out] at HU
        clear g1 hc HHA HZC HC HAT HDE HST HCC hLs
        have wq : IntKind.i64.wrap ((k : Int) + 1 + (q : Int) + 1) = (k : Int) + 1 + (q : Int) + 1 := IntWalk.i64_in _ (by omega)
        have nq : ((k : Int) + 1 + (q : Int) + 1).toNat = k + 1 + (q + 1) := by omega
        have bq : (k : Int) + 1 + (q : Int) + 1 ≤ (s.size : Int) := by omega
        have bq2 : (k : Int) ≤ (k : Int) + 1 + (q : Int) + 1 := by omega
        have bq3 : 0 ≤ (k : Int) + 1 + (q : Int) + 1 := by omega
        generalize hV : (⟨L.toArray⟩ : ByteArray) = V at *
        by_cases hqe : quo V = s.extract k (k + 1 + (q + 1))
        · have HF : Hid (unq s k = (V, ((k + 1 + (q + 1) : Nat) : Int), 0)) := by show _ = _; rw [HU.out, if_neg (by simp), if_neg (fun h => h hqe)]
          rw [hqe] at HRQ
          clear HU hqe hV
          go_wp2_with fail
          go_region_held (fun _ => True) (exact trivial) (first
            | (go_at_call 66; refine (HRQ.out _ (by repeat (first | exact hbel | refine Below.drew ?_))).mono ?_; rintro e w2 ⟨rfl, b2⟩))
          all_goals
            have B2 := andThen (Below.drew hbel) b2
            clear b2
            go_wp2
            go_ret3
            exact ⟨by rw [HF.out]; exact ret3 _ _ ((k + 1 + (q + 1) : Nat) : Int) _ 0 (by omega) rfl, B2⟩
        · have HF : Hid (unq s k = (⟨#[]⟩, 0, 28)) := by show _ = _; rw [HU.out, if_neg (by simp), if_pos hqe]
          have tq : ((quo V).toList == (s.extract k (k + 1 + (q + 1))).toList) = false := by rw [beq_eq_false_iff_ne]; exact fun h => hqe (toList_inj h)
          generalize quo V = Y at *
          clear HU hqe hV
          go_wp2_with fail
          go_region_held (fun _ => True) (exact trivial) (first
            | (go_at_call 66; refine (HRQ.out _ (by repeat (first | exact hbel | refine Below.drew ?_))).mono ?_; rintro e w2 ⟨rfl, b2⟩))
          all_goals
            have B2 := andThen (Below.drew hbel) b2
            clear b2
            go_wp2
            go_ret3
            exact ⟨by rw [HF.out]; rfl, B2⟩
      · have t34 : ((c : Int) != (34 : Int)) = true := by rw [bne_iff_ne]; omega
        by_cases c92 : c = 92
        · subst c92
          have HRE : Hid (∀ w', Calls Tryd.prog 64 #[.string s, .int .i64 ((k : Int) + 1 + (q : Int))] w' fun e w'' => ∃ v, e = .returned (.tuple #[v, .int .i64 (esc (s.extract (k + 1 + q) s.size)).2]) ∧ EscOK w'' v (esc (s.extract (k + 1 + q) s.size)) ∧ Below w'.heap.size w' w'') := fun w' => by
            have h9 := resc_any s (k + 1 + q) w' (by omega) hiq hc
            rw [show ((k + 1 + q : Nat) : Int) = (k : Int) + 1 + (q : Int) by omega] at h9
            exact h9
          have HJ : Hid ((esc (s.extract (k + 1 + q) s.size)).2 ≠ 0 → con z (q + (esc (s.extract (k + 1 + q) s.size)).2) (L ++ (esc (s.extract (k + 1 + q) s.size)).1.data.toList) (q + (esc (s.extract (k + 1 + q) s.size)).2) = con z q L E ∧ q + (esc (s.extract (k + 1 + q) s.size)).2 ≤ z.size) := fun hne => by
            have h9 := con_jump z q L E hzq hE HZC.out (by rw [HCC.out q (by omega)]; exact hne)
            rw [HCC.out q (by omega)] at h9
            exact h9
          have HJ0 : Hid ((esc (s.extract (k + 1 + q) s.size)).2 = 0 → con z q L E = (⟨#[]⟩, 0, 27)) := fun h0 => con_e0 z q L E hzq (by omega) (by rw [dec_ascii z q (by rw [HZC.out]; decide)]; exact HZC.out) (by rw [HCC.out q (by omega)]; exact h0)
          have hel := esc_le (s.extract (k + 1 + q) s.size)
          clear g1 hc HHA HZC HAT HDE HST HCC
          generalize esc (s.extract (k + 1 + q) s.size) = Y at *
          obtain ⟨y1, y2⟩ := Y
          by_cases hy : y2 = 0
          · subst hy
            have HXX : Hid (X = (⟨#[]⟩, 0, 27)) := by show _ = _; rw [← HC.out]; exact HJ0.out rfl
            rw [HXX.out] at HU
            have HF : Hid (unq s k = (⟨#[]⟩, 0, 27)) := by show _ = _; rw [HU.out, if_pos (by simp)]; rfl
            clear HU HJ HJ0 HC
            go_wp2_with fail
            refine (HRE.out _).mono ?_
            rintro e w2 ⟨v2, rfl, he2, b2⟩
            have B2 := andThen hbel b2
            obtain ⟨⟨ao2, n2, cap2, rfl⟩, _⟩ := he2
            clear b2
            go_wp2
            go_ret3
            exact ⟨by rw [HF.out]; rfl, B2⟩
          · have t0 : ((y2 : Int) == (0 : Int)) = false := by rw [beq_eq_false_iff_ne]; omega
            have HN : Hid (con z (q + y2) (L ++ y1.data.toList) (q + y2) = X ∧ q + y2 ≤ z.size) := ⟨(HJ.out hy).1.trans HC.out, (HJ.out hy).2⟩
            have hqy : k + 1 + (q + y2) ≤ s.size := by have h8 := HN.out.2; rw [HZS.out] at h8; omega
            have hy1 : y1.data.toList.length ≤ 4 := by rw [list_size]; exact hel.1
            clear HJ HJ0 HC hel
            go_wp2_with fail
            refine (HRE.out _).mono ?_
            rintro e w2 ⟨v2, rfl, he2, b2⟩
            have B2 := andThen hbel b2
            have HR2 : Hid (Ro w.heap.size w2 (.slice ao3 L.length cap3) L) := hro.kept b2
            obtain ⟨g2, cap2, rfl, hc2⟩ := he2.2 hy
            have HC2 : Hid (∀ j (h : j < y1.data.toList.length), w2.cell? ⟨g2, j, none⟩ = some (.int .u8 ((y1.data.toList[j]).toNat : Int))) := hc2
            have hs2 := B2.size
            clear b2 he2 hc2 hro hbel
            generalize y1.data.toList = M at *
            go_wp2_with (at_builtin; refine wpList_app_sl _ rfl (.tmp 55) (.tmp 56) 72 rfl w.heap.size hin Tryd.underlying72 _ L rfl HR2.out g2 _ cap2 M rfl rfl HC2.out (by omega) (by omega) hs2 ?_)
            intro v6 w6 hr6 hg6
            have HR6 : Hid (Ro w.heap.size w6 v6 (L ++ M)) := hr6
            have HB6 : Hid (Below w.heap.size w w6) := HR2.out.below B2 hg6
            have HLL : Hid ((L ++ M).length ≤ 4 * (q + y2)) := by show _ ≤ _; rw [List.length_append]; omega
            clear hr6 hg6 HC2 HR2
            go_wp2
            go_roundw
            case rel =>
              exact ⟨q + y2, L ++ M, q + y2, by go_num, HR6.out, HN.out.1, Nat.le_refl _, HLL.out, hqy, HB6.out⟩
            case measure => simp [intOf]; omega
        · have t92 : ((c : Int) == (92 : Int)) = false := by rw [beq_eq_false_iff_ne]; omega
          have hdz := HDE.out q hiq
          have HDZ : Hid (Utf8.decode z q = Utf8.decode s (k + 1 + q)) := hdz
          have HSZ : Hid (stray z q = stray s (k + 1 + q)) := HST.out q hiq
          have hdf := decode_fits s (k + 1 + q) hiq
          have hed : stray s (k + 1 + q) = false → s.extract (k + 1 + q) (k + 1 + q + (Utf8.decode s (k + 1 + q)).2) = Utf8.encode ((Utf8.decode s (k + 1 + q)).1 : Int) := fun hst => by
            have h8 := enc_dec s (k + 1 + q) hiq hst
            have h9 := has_extract h8.1 (by rw [list_size, h8.2]; exact hdf.2.1)
            rw [list_size, h8.2, ba_list] at h9
            exact h9
          have HED : Hid (stray s (k + 1 + q) = false → s.extract (k + 1 + q) (k + 1 + q + (Utf8.decode s (k + 1 + q)).2) = Utf8.encode ((Utf8.decode s (k + 1 + q)).1 : Int)) := hed
          have HN34 : Hid (¬ (Utf8.decode z q).1 = 34) := fun h => by
            have h9 := dec_low_at (t := z) (p := q) (by rw [h]; decide)
            rw [h, HZC.out] at h9
            exact c34 h9.2.symm
          have HN92 : Hid (¬ (Utf8.decode z q).1 = 92) := fun h => by
            have h9 := dec_low_at (t := z) (p := q) (by rw [h]; decide)
            rw [h, HZC.out] at h9
            exact c92 h9.2.symm
          have HRAW : Hid ((ctl ((Utf8.decode s (k + 1 + q)).1 : Int) || among hids ((Utf8.decode s (k + 1 + q)).1 : Int) || stray s (k + 1 + q)) = true → X = (⟨#[]⟩, 0, 26)) := fun h => by
            rw [← HC.out]
            exact con_raw z q L E hzq (by omega) HN34.out HN92.out (by rw [HDZ.out, HSZ.out]; exact h)
          have HON : Hid ((ctl ((Utf8.decode s (k + 1 + q)).1 : Int) || among hids ((Utf8.decode s (k + 1 + q)).1 : Int) || stray s (k + 1 + q)) = false → con z (q + (Utf8.decode s (k + 1 + q)).2) (L ++ (Utf8.encode ((Utf8.decode s (k + 1 + q)).1 : Int)).data.toList) E = X) := fun h => by
            have h9 := con_on z q L E hzq (by omega) HN34.out HN92.out (by rw [HDZ.out, HSZ.out]; exact h)
            rw [HDZ.out] at h9
            exact h9.trans HC.out
          have HPI : Hid (∀ w', Calls Tryd.prog 34 #[.string s, .int .i64 ((k : Int) + 1 + (q : Int))] w' fun e w'' => e = .returned (.agg #[.int .i64 (pcR s (k + 1 + q)), .int .i64 ((k : Int) + 1 + (q : Int)), .int .i64 ((Utf8.decode s (k + 1 + q)).2 : Int)]) ∧ Below w'.heap.size w' w'') := fun w' => by
            have h9 := piece_any s (k + 1 + q) w' (by omega) hiq
            rw [show ((k + 1 + q : Nat) : Int) = (k : Int) + 1 + (q : Int) by omega] at h9
            exact h9
          have HRAWF : Hid (X = (⟨#[]⟩, 0, 26) → unq s k = (⟨#[]⟩, 0, 26)) := fun h => by
            rw [HU.out, h, if_pos (by simp)]
            rfl
          have HPR : Hid ((stray s (k + 1 + q) = true ∧ pcR s (k + 1 + q) = -1) ∨ (stray s (k + 1 + q) = false ∧ pcR s (k + 1 + q) = ((Utf8.decode s (k + 1 + q)).1 : Int))) := by
            show _ ∨ _
            unfold pcR
            cases stray s (k + 1 + q)
            · exact .inr ⟨rfl, rfl⟩
            · exact .inl ⟨rfl, rfl⟩
          clear hdz hed HDZ HSZ HN34 HN92 HU HC HAT HDE HST HCC g1 hc HHA HZC c34 c92
          generalize (Utf8.decode s (k + 1 + q)).1 = r at *
          generalize (Utf8.decode s (k + 1 + q)).2 = d at *
          generalize pcR s (k + 1 + q) = pr at *
          generalize stray s (k + 1 + q) = st at *
          have HHD : Hid (∀ w', Below w.heap.size w w' → Calls Tryd.prog 65 #[.int .i64 (r : Int)] w' fun e w'' => e = .returned (.bool (among hids (r : Int))) ∧ ∃ n, w'' = w'.drewN n) := fun w' hb => rhid_any _ w' (HT.out _ hb)
          rcases HPR.out with ⟨rfl, rfl⟩ | ⟨rfl, rfl⟩
          · have HF : Hid (unq s k = (⟨#[]⟩, 0, 26)) := HRAWF.out (HRAW.out (by simp))
            clear HPR HRAWF HRAW HON HED HHD
            go_wp2_with fail
            refine (HPI.out _).mono ?_
            rintro e w2 ⟨rfl, b2⟩
            have B2 := andThen hbel b2
            clear b2
            go_wp2
            go_ret3
            exact ⟨by rw [HF.out]; rfl, by repeat (first | exact B2 | refine Below.setCell ?_ (by have := B2.size; show _ ≤ _; omega) _ | refine up ?_ _)⟩
          · by_cases h32 : r < 32
            · have HF : Hid (unq s k = (⟨#[]⟩, 0, 26)) := HRAWF.out (HRAW.out (by
                have h9 : ctl (r : Int) = true := by unfold ctl; rw [decide_eq_true (by omega)]; rfl
                rw [h9]; rfl))
              clear HPR HRAWF HRAW HON HED HHD
              go_wp2_with fail
              refine (HPI.out _).mono ?_
              rintro e w2 ⟨rfl, b2⟩
              have B2 := andThen hbel b2
              clear b2
              go_wp2
              go_ret3
              exact ⟨by rw [HF.out]; rfl, by repeat (first | exact B2 | refine Below.setCell ?_ (by have := B2.size; show _ ≤ _; omega) _ | refine up ?_ _)⟩
            · by_cases h127 : r = 127
              · subst h127
                have HF : Hid (unq s k = (⟨#[]⟩, 0, 26)) := HRAWF.out (HRAW.out rfl)
                clear HPR HRAWF HRAW HON HED HHD
                go_wp2_with fail
                refine (HPI.out _).mono ?_
                rintro e w2 ⟨rfl, b2⟩
                have B2 := andThen hbel b2
                clear b2
                go_wp2
                go_ret3
                exact ⟨by rw [HF.out]; rfl, by repeat (first | exact B2 | refine Below.setCell ?_ (by have := B2.size; show _ ≤ _; omega) _ | refine up ?_ _)⟩
              · have t127 : ((r : Int) == (127 : Int)) = false := by rw [beq_eq_false_iff_ne]; omega
                have HCT : Hid (ctl (r : Int) = false) := by show _ = _; unfold ctl; rw [decide_eq_false (by omega), decide_eq_false (by omega)]; rfl
                cases hh : among hids (r : Int) with
                | true =>
                  have HF : Hid (unq s k = (⟨#[]⟩, 0, 26)) := HRAWF.out (HRAW.out (by rw [HCT.out, hh]; rfl))
                  rw [hh] at HHD
                  clear HPR HRAWF HRAW HON HED hh HCT h127
                  go_wp2_with fail
                  refine (HPI.out _).mono ?_
                  rintro e w2 ⟨rfl, b2⟩
                  have B2 := andThen hbel b2
                  have hs2 := B2.size
                  clear b2
                  go_wp2_with fail
                  refine (HHD.out _ (by repeat (first | exact B2 | refine Below.setCell ?_ (by show _ ≤ _; omega) _ | refine up ?_ _))).mono ?_
                  rintro e w3 ⟨rfl, n3, hn3⟩
                  have B3 : Below w.heap.size w w3 := by rw [hn3]; exact below_drewN (by repeat (first | exact B2 | refine Below.setCell ?_ (by show _ ≤ _; omega) _ | refine up ?_ _)) n3
                  clear hn3
                  go_wp2
                  go_ret3
                  exact ⟨by rw [HF.out]; rfl, B3⟩
                | false =>
                  have HN : Hid (con z (q + d) (L ++ (Utf8.encode (r : Int)).data.toList) E = X) := HON.out (by rw [HCT.out, hh]; rfl)
                  have HEX : Hid (s.extract (k + 1 + q) (k + 1 + q + d) = Utf8.encode (r : Int)) := HED.out rfl
                  have HE4 : Hid ((Utf8.encode (r : Int)).size ≤ 12) := Nat.le_trans (encode_le _) (by decide)
                  have HLL : Hid ((L ++ (Utf8.encode (r : Int)).data.toList).length ≤ 4 * (q + d)) := by show _ ≤ _; have := encode_le (r : Int); rw [List.length_append, list_size]; omega
                  rw [hh] at HHD
                  clear HPR HRAWF HRAW HON HED hh HCT h127
                  generalize Utf8.encode (r : Int) = EB at *
                  have hex := HEX.out
                  go_wp2_with fail
                  refine (HPI.out _).mono ?_
                  rintro e w2 ⟨rfl, b2⟩
                  have B2 := andThen hbel b2
                  have hs2 := B2.size
                  have HR2 : Hid (Ro w.heap.size w2 (.slice ao3 L.length cap3) L) := hro.kept b2
                  clear b2
                  have HOB : Hid (∀ j, (Value.slice ao3 L.length cap3).ownBlock = some j → j < w2.heap.size) := fun j hj => (World.ownsRow.lt HR2.out j hj).2
                  have HB3 : Hid (∀ o, Below w.heap.size w (w2.alloc o)) := fun o => up B2 o
                  have HR3 : Hid (∀ o, Ro w.heap.size (w2.alloc o) (.slice ao3 L.length cap3) L) := fun o => HR2.out.kept (up0 _ _)
                  go_wp2_with fail
                  refine (HHD.out _ (HB3.out _)).mono ?_
                  rintro e w3 ⟨rfl, n3, hn3⟩
                  have B3 : Below w.heap.size w w3 := by rw [hn3]; exact below_drewN (HB3.out _) n3
                  have HR4 : Hid (Ro w.heap.size w3 (.slice ao3 L.length cap3) L) := by show Ro _ _ _ _; rw [hn3]; exact (HR3.out _)
                  have hcell2 : w3.cell? ⟨w2.heap.size, 2, none⟩ = some (.int .i64 (d : Int)) := by rw [hn3]; exact World.cell?_alloc_new w2 _ _ 2
                  have hs3 := B3.size
                  clear hn3 HB3 HR3 HR2 B2 hbel hro
                  have nd : ((k : Int) + 1 + (q : Int)).toNat = k + 1 + q := by omega
                  have nd2 : ((k : Int) + 1 + (q : Int) + (d : Int)).toNat = k + 1 + q + d := by omega
                  go_wp2_with (at_builtin; refine wpList_app_str _ rfl (.tmp 77) (.tmp 84) 72 9 rfl w.heap.size hin Tryd.underlying72 Tryd.underlying9 _ L rfl HR4.out EB rfl (by omega) HE4.out hs3 ?_)
                  intro v6 w6 hr6 hg6
                  have HR6 : Hid (Ro w.heap.size w6 v6 (L ++ EB.data.toList)) := hr6
                  have HB6 : Hid (Below w.heap.size w w6) := HR4.out.below B3 hg6
                  have hcell6 : w6.cell? ⟨w2.heap.size, 2, none⟩ = some (.int .i64 (d : Int)) := by
                    rw [World.cell?_of_block (a := ⟨w2.heap.size, 2, none⟩) (hg6.block w2.heap.size (World.block_lt_of_cell? _ _ hcell2) (fun h => Nat.lt_irrefl _ (HOB.out _ h.symm)))]
                    exact hcell2
                  clear hr6 hg6
                  go_wp2
                  go_roundw
                  case rel => exact ⟨q + d, L ++ EB.data.toList, E, by go_num, HR6.out, HN.out, by omega, HLL.out, by omega, HB6.out⟩
                  case measure => simp [intOf]; omega
    · have HXX : Hid (X = (⟨#[]⟩, 0, 25)) := by show _ = _; rw [← HC.out]; exact con_out z q L E (by rw [HZS.out]; omega)
      rw [HXX.out] at HU
      have HF : Hid (unq s k = (⟨#[]⟩, 0, 25)) := by show _ = _; rw [HU.out, if_pos (by simp)]; rfl
      clear HU HC HAT HDE HST HCC
      go_wp2
      go_ret3
      exact ⟨by rw [HF.out]; rfl, hbel⟩
set_option maxRecDepth 100000 in
set_option maxHeartbeats 1000000 in
theorem runq_any (s : ByteArray) (at_ : Int) (w : World) (hs : s.size ≤ 200000) (hT : TabP 3 .i64 hids w) :
    Calls Tryd.prog 49 #[.string s, .int .i64 at_] w fun e w' => e = .returned (.tuple #[.string (unq s at_).1, .int .i64 (unq s at_).2.1, .int .i64 (unq s at_).2.2]) ∧ Below w.heap.size w w' := by
  by_cases h0 : at_ < 0
  · have HF : Hid (unq s at_ = (⟨#[]⟩, 0, 1)) := by show _ = _; unfold unq; rw [if_pos (.inl h0)]
    rw [HF.out]
    go_enter Tryd.func49, Tryd.ntmps49
    go_wp2
    go_ret3
    exact ⟨rfl, Below.refl _ _⟩
  by_cases h1 : (s.size : Int) < at_
  · have HF : Hid (unq s at_ = (⟨#[]⟩, 0, 1)) := by show _ = _; unfold unq; rw [if_pos (.inr h1)]
    rw [HF.out]
    go_enter Tryd.func49, Tryd.ntmps49
    go_wp2
    go_ret3
    exact ⟨rfl, Below.refl _ _⟩
  have n1 : ¬ (at_ < 0 ∨ (s.size : Int) < at_) := by omega
  obtain ⟨k, rfl⟩ := Int.eq_ofNat_of_zero_le (by omega : 0 ≤ at_)
  have hk : k ≤ s.size := by omega
  clear h0 h1
  by_cases h2 : k = s.size
  · have HF : Hid (unq s k = (⟨#[]⟩, 0, 24)) := by show _ = _; unfold unq; rw [if_neg n1, if_pos (.inl (by rw [h2]))]
    rw [HF.out]
    have t2 : ((k : Int) == (s.size : Int)) = true := by rw [h2]; exact beq_self_eq_true _
    clear h2 n1
    go_enter Tryd.func49, Tryd.ntmps49
    go_wp2
    go_ret3
    exact ⟨rfl, Below.refl _ _⟩
  have hlt : k < s.size := by omega
  have t2 : ((k : Int) == (s.size : Int)) = false := by rw [beq_eq_false_iff_ne]; omega
  have g0 := at_get s k hlt
  by_cases h3 : at' s k = 34
  · exact runq_in s k w hs hlt (by rw [← g0]; exact h3) hT
  · have HF : Hid (unq s k = (⟨#[]⟩, 0, 24)) := by show _ = _; unfold unq; rw [if_neg n1, if_pos (.inr (by rw [Int.toNat_natCast]; exact h3))]
    rw [HF.out]
    rw [g0] at h3
    have t3 : (((s[k]'hlt).toNat : Int) != (34 : Int)) = true := by rw [bne_iff_ne]; omega
    clear n1 g0 h3 h2
    go_enter Tryd.func49, Tryd.ntmps49
    go_wp2
    go_ret3
    exact ⟨rfl, Below.refl _ _⟩

end Go.Proofs.YtneifdbcjicfgaaDoor
