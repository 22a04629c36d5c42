/-
  Package text: content.
-/
import Derived.Test.YtbabckchfabbkaaDoorCon1
namespace Go.Proofs.YtbabckchfabbkaaDoor
open Go Go.RowKit Go.Lib
open Tx

theorem ro_nil (B : Nat) (w : World) : Ro B w (.slice none 0 0) [] := ⟨rfl, .inl ⟨rfl, rfl⟩⟩
theorem conv_zero (w : World) (p : Option Addr) (c : Nat) : (convert 66 9 (.slice p 0 c)).run Tryd.prog w = .ok (.string ⟨#[]⟩) w := by
  rw [run_convert_bytes_string w 66 9 5 _ 0 c Tryd.underlying66 Tryd.underlying5 Tryd.underlying9]
  cases p <;> simp [Conv.bytesToString, loadCells]
  all_goals rfl
/-- string(v), of any row -/
theorem Ro.str2 {B : Nat} {w : World} {v : Value} {l : List UInt8} (h : Ro B w v l) : (convert 66 9 v).run Tryd.prog w = .ok (.string ⟨l.toArray⟩) w := by
  by_cases hl : 0 < l.length
  · exact h.str hl
  · obtain rfl : l = [] := List.eq_nil_of_length_eq_zero (by omega)
    obtain ⟨ao, cap, rfl⟩ := h.shape
    exact conv_zero w ao cap

set_option maxRecDepth 100000 in
set_option maxHeartbeats 4000000 in
theorem content_any (s : ByteArray) (w : World) (hs : s.size ≤ 2000000) (hT : TabP 3 .i32 hids w) :
    Calls Tryd.prog 28 #[.string s] w fun e w' => e = .returned (.tuple #[.string (con s 0 [] 0).1, .int .i64 (con s 0 [] 0).2.1, .int .i64 (con s 0 [] 0).2.2]) ∧ Below w.heap.size w w' := by
  have hin := info5q
  have HT : Hid (∀ w', Below w.heap.size w w' → TabP 3 .i32 hids w') := fun w' hb => hT.kept hb
  obtain ⟨Z, hZ⟩ : ∃ Z, con s 0 [] 0 = Z := ⟨_, rfl⟩
  rw [hZ]
  have HZ : Hid (con s 0 [] 0 = Z) := hZ
  clear hT hZ
  have HI : Hid ((w.iter s 0).heap[w.heap.size]? = some (.stringIter s 0)) := World.iter_heap w s 0
  have HRI : Hid (Ro w.heap.size (w.iter s 0) (.slice none 0 0) []) := ro_nil _ _
  have HBI : Hid (Below w.heap.size w (w.iter s 0)) := up_iter w s 0
  go_enter Tryd.func28, Tryd.ntmps28
  go_wp2
  go_loopw [5, 6] (fun o e wr => ∃ (p : Nat) (L : List UInt8) (E : Nat), Ro w.heap.size wr o L ∧ e = .int .i64 (E : Int) ∧ con s p L E = Z ∧ L.length ≤ 4 * p ∧ E ≤ p + 10 ∧ p ≤ s.size ∧ wr.heap[w.heap.size]? = some (.stringIter s p) ∧ Below w.heap.size w wr) (fun _ _ wr => s.size - wr.iterPos w.heap.size)
  case atStart => exact ⟨0, [], 0, HRI.out, rfl, HZ.out, by simp, by omega, Nat.zero_le _, HI.out, HBI.out⟩
  case round =>
    obtain ⟨p, L, E, hro, rfl, hL, hlen, hE, hp, hit, hbel⟩ := hrel
    have HL : Hid (con s p L E = Z) := hL
    have HPOS : Hid (wr.iterPos w.heap.size = p) := iter_pos hit
    clear hL HI HRI HBI HZ
    obtain ⟨ao3, cap3, rfl⟩ := hro.shape
    by_cases hlt : p < s.size
    · have hd := decode_fits s p hlt
      have hnx : ∀ ty, (Instr.next (.pointer (some ⟨w.heap.size, 0, none⟩)) true ty).run Tryd.prog wr = _ := fun ty => run_next_at wr w.heap.size s p ty hit hlt
      have hI2 : (setIter wr w.heap.size s (p + (Utf8.decode s p).2)).heap[w.heap.size]? = some (.stringIter s (p + (Utf8.decode s p).2)) := iter_at wr w.heap.size s _ _ hit
      have hB2 : Below w.heap.size w (setIter wr w.heap.size s (p + (Utf8.decode s p).2)) := below_iter hbel _ (Nat.le_refl _) s _
      have hR2 : Ro w.heap.size (setIter wr w.heap.size s (p + (Utf8.decode s p).2)) (.slice ao3 L.length cap3) L := hro.iter hit
      clear hbel hit hro
      generalize setIter wr w.heap.size s (p + (Utf8.decode s p).2) = w3 at *
      by_cases hpe : p < E
      · have HN : Hid (con s (p + (Utf8.decode s p).2) L E = Z) := by show _ = _; rw [con_skip s p L E hlt hpe]; exact HL.out
        have HP3 : Hid (w3.iterPos w.heap.size = p + (Utf8.decode s p).2) := iter_pos hI2
        have HB2 : Hid (Below w.heap.size w w3) := hB2
        have HR2 : Hid (Ro w.heap.size w3 (.slice ao3 L.length cap3) L) := hR2
        have HI2 : Hid (w3.heap[w.heap.size]? = some (.stringIter s (p + (Utf8.decode s p).2))) := hI2
        clear HL hB2 hR2 hI2
        generalize (Utf8.decode s p).1 = r at *
        generalize (Utf8.decode s p).2 = d at *
        go_wp2
        go_roundw
        case rel => exact ⟨p + d, L, E, HR2.out, rfl, HN.out, by omega, by omega, hd.2.1, HI2.out, HB2.out⟩
        case measure => rw [HP3.out, HPOS.out]; omega
      · have hr31 := decode_le s p
        have HSTR : Hid (∀ w', Calls Tryd.prog 32 #[.string s, .int .i64 (p : Int), .int .i32 ((Utf8.decode s p).1 : Int)] w' fun e w'' => e = .returned (.bool (stray s p)) ∧ w'' = w') := fun w' => stray_any s p w' hlt
        have HVAL : Hid (Utf8.valid ((Utf8.decode s p).1 : Int) = true) := dec_valid s p
        have HLOW : Hid ((Utf8.decode s p).1 < 128 → (Utf8.decode s p).2 = 1) := dec_low s p
        have HP3 : Hid (w3.iterPos w.heap.size = p + (Utf8.decode s p).2) := iter_pos hI2
        have HB2 : Hid (Below w.heap.size w w3) := hB2
        have HR2 : Hid (Ro w.heap.size w3 (.slice ao3 L.length cap3) L) := hR2
        have HI2 : Hid (w3.heap[w.heap.size]? = some (.stringIter s (p + (Utf8.decode s p).2))) := hI2
        have h1 : ¬ p < E := hpe
        have HCQ : Hid ((Utf8.decode s p).1 = 34 → con s p L E = (⟨L.toArray⟩, p + 1, 0)) := con_q s p L E hlt h1
        have HCE0 : Hid ((Utf8.decode s p).1 = 92 → (esc (s.extract p s.size)).2 = 0 → con s p L E = (⟨#[]⟩, 0, 27)) := con_e0 s p L E hlt h1
        have HCE : Hid ((Utf8.decode s p).1 = 92 → ¬ (esc (s.extract p s.size)).2 = 0 → con s (p + (Utf8.decode s p).2) (L ++ (esc (s.extract p s.size)).1.data.toList) (p + (esc (s.extract p s.size)).2) = con s p L E) := con_e s p L E hlt h1
        have HCR : Hid (¬ (Utf8.decode s p).1 = 34 → ¬ (Utf8.decode s p).1 = 92 → (ctl ((Utf8.decode s p).1 : Int) || among hids ((Utf8.decode s p).1 : Int) || stray s p) = true → con s p L E = (⟨#[]⟩, 0, 26)) := con_raw s p L E hlt h1
        have HCO : Hid (¬ (Utf8.decode s p).1 = 34 → ¬ (Utf8.decode s p).1 = 92 → (ctl ((Utf8.decode s p).1 : Int) || among hids ((Utf8.decode s p).1 : Int) || stray s p) = false → con s (p + (Utf8.decode s p).2) (L ++ (Utf8.encode ((Utf8.decode s p).1 : Int)).data.toList) E = con s p L E) := con_on s p L E hlt h1
        clear hB2 hR2 hI2 hpe
        generalize (Utf8.decode s p).1 = r at *
        generalize (Utf8.decode s p).2 = d at *
        by_cases h34 : r = 34
        · subst h34
          have HF : Hid (Z = (⟨L.toArray⟩, p + 1, 0)) := by show _ = _; rw [← HL.out]; exact HCQ.out rfl
          have hcv := HR2.out.str2
          clear HCQ HCE0 HCE HCR HCO HL HSTR HVAL HLOW
          go_wp2
          go_ret3
          exact ⟨by rw [HF.out]; rfl, HB2.out⟩
        · have t34 : ((r : Int) == (34 : Int)) = false := by rw [beq_eq_false_iff_ne]; omega
          by_cases h92 : r = 92
          · subst h92
            have hd1 : d = 1 := HLOW.out (by decide)
            subst hd1
            have HES : Hid (∀ w', Calls Tryd.prog 50 #[.string (s.extract p s.size)] w' fun e w'' => e = .returned (.tuple #[.string (esc (s.extract p s.size)).1, .int .i64 (esc (s.extract p s.size)).2]) ∧ Below w'.heap.size w' w'') := fun w' => esc_any _ w' (by rw [size_cut s p s.size (Nat.le_refl _)]; omega)
            have hel := esc_le (s.extract p s.size)
            clear HCQ HCR HCO HSTR HVAL HLOW
            generalize hX : esc (s.extract p s.size) = X at *
            obtain ⟨x1, x2⟩ := X
            clear hX
            by_cases hx0 : x2 = 0
            · subst hx0
              have HF : Hid (Z = (⟨#[]⟩, 0, 27)) := by show _ = _; rw [← HL.out]; exact HCE0.out rfl rfl
              clear HCE0 HCE HL
              go_wp2_with fail
              refine (HES.out _).mono ?_
              rintro e w5 ⟨rfl, b5⟩
              have B5 := andThen HB2.out b5
              clear b5
              go_wp2
              go_ret3
              exact ⟨by rw [HF.out]; rfl, B5⟩
            · have t0 : ((x2 : Int) == (0 : Int)) = false := by rw [beq_eq_false_iff_ne]; omega
              have HN : Hid (con s (p + 1) (L ++ x1.data.toList) (p + x2) = Z) := by show _ = _; rw [← HL.out]; exact HCE.out rfl hx0
              have HX1 : Hid (x1.size ≤ 12) := Nat.le_trans hel.1 (by decide)
              have HX4 : Hid ((L ++ x1.data.toList).length ≤ 4 * (p + 1)) := by
                show _ ≤ _
                have h9 : x1.size ≤ 4 := hel.1
                rw [List.length_append, list_size]
                omega
              have hx10 : x2 ≤ 10 := hel.2
              clear HCE0 HCE HL hel hx0
              go_wp2_with fail
              refine (HES.out _).mono ?_
              rintro e w5 ⟨rfl, b5⟩
              have B5 := andThen HB2.out b5
              have HR5 : Hid (Ro w.heap.size w5 (.slice ao3 L.length cap3) L) := HR2.out.kept b5
              have hI5 := (b5.block w.heap.size (Array.getElem?_eq_some_iff.1 HI2.out).1).trans HI2.out
              have hs5 := B5.size
              clear b5
              go_wp2_with (at_builtin; refine wpList_app_str _ rfl (.tmp 42) (.tmp 43) 66 9 rfl w.heap.size hin Tryd.underlying66 Tryd.underlying9 _ L rfl HR5.out x1 rfl (by omega) HX1.out hs5 ?_)
              intro v6 w6 hr6 hg6
              have HRL : Hid (Ro w.heap.size w6 v6 (L ++ x1.data.toList) ∧ w6.heap[w.heap.size]? = some (.stringIter s (p + 1)) ∧ Below w.heap.size w w6) := ⟨hr6, iter_grown HR5.out hI5 hg6, HR5.out.below B5 hg6⟩
              have HPS : Hid (w6.iterPos w.heap.size = p + 1) := iter_pos HRL.out.2.1
              clear hr6 hg6 HR5 hI5 B5
              go_wp2
              go_roundw
              case rel => exact ⟨p + 1, L ++ x1.data.toList, p + x2, HRL.out.1, by go_num, HN.out, HX4.out, by omega, by omega, HRL.out.2.1, HRL.out.2.2⟩
              case measure => rw [HPS.out, HPOS.out]; omega
          · have t92 : ((r : Int) == (92 : Int)) = false := by rw [beq_eq_false_iff_ne]; omega
            clear HCQ HCE0 HCE
            have HR4 : Hid ((ctl (r : Int) || among hids (r : Int) || stray s p) = true → con s p L E = (⟨#[]⟩, 0, 26)) := HCR.out h34 h92
            have HO4 : Hid ((ctl (r : Int) || among hids (r : Int) || stray s p) = false → con s (p + d) (L ++ (Utf8.encode (r : Int)).data.toList) E = con s p L E) := HCO.out h34 h92
            have HCT : Hid (∀ w', Calls Tryd.prog 51 #[.int .i32 (r : Int)] w' fun e w'' => e = .returned (.bool (ctl (r : Int))) ∧ w'' = w') := fun w' => control_any r w'
            have HHD : Hid (∀ w', Below w.heap.size w w' → Calls Tryd.prog 52 #[.int .i32 (r : Int)] w' fun e w'' => e = .returned (.bool (among hids (r : Int))) ∧ Below w'.heap.size w' w'') := fun w' hb => hidden_any r w' (HT.out _ hb)
            have HAR : Hid (∀ v w', Ro w.heap.size w' v L → w.heap.size ≤ w'.heap.size → Calls Tryd.prog 53 #[v, .int .i32 (r : Int)] w' fun e w'' => ∃ v', e = .returned v' ∧ Ro w.heap.size w'' v' (L ++ (Utf8.encode (r : Int)).data.toList) ∧ w'.grownBy w'' v.ownBlock) := fun v w' hr hb => appRune_any r w.heap.size v L w' HVAL.out hr (by omega) hb
            have HEL : Hid ((L ++ (Utf8.encode (r : Int)).data.toList).length ≤ 4 * (p + d)) := by
              show _ ≤ _
              have h9 := encode_le (r : Int)
              rw [List.length_append, list_size]
              omega
            clear HCR HCO HVAL HLOW h34 h92 hr31
            generalize ctl (r : Int) = c1 at *
            generalize among hids (r : Int) = c2 at *
            generalize stray s p = c3 at *
            generalize (Utf8.encode (r : Int)).data.toList = Y at *
            obtain ⟨x, hx⟩ : ∃ x : Int, (r : Int) = x := ⟨_, rfl⟩
            rw [hx] at hnx t34 t92 HSTR HCT HHD HAR
            clear hx
            cases c1 with
            | true =>
              have HF : Hid (Z = (⟨#[]⟩, 0, 26)) := by show _ = _; rw [← HL.out]; exact HR4.out rfl
              clear HR4 HO4 HL
              go_wp2_with fail
              refine (HCT.out _).mono ?_
              rintro e w5 ⟨rfl, rfl⟩
              go_wp2
              go_ret3
              exact ⟨by rw [HF.out]; rfl, HB2.out⟩
            | false =>
              cases c2 with
              | true =>
                have HF : Hid (Z = (⟨#[]⟩, 0, 26)) := by show _ = _; rw [← HL.out]; exact HR4.out rfl
                clear HR4 HO4 HL
                go_wp2_with fail
                refine (HCT.out _).mono ?_
                rintro e w5 ⟨rfl, rfl⟩
                go_wp2_with fail
                refine (HHD.out _ HB2.out).mono ?_
                rintro e w6 ⟨rfl, b6⟩
                have B6 := andThen HB2.out b6
                clear b6
                go_wp2
                go_ret3
                exact ⟨by rw [HF.out]; rfl, B6⟩
              | false =>
                cases c3 with
                | true =>
                  have HF : Hid (Z = (⟨#[]⟩, 0, 26)) := by show _ = _; rw [← HL.out]; exact HR4.out rfl
                  clear HR4 HO4 HL
                  go_wp2_with fail
                  refine (HCT.out _).mono ?_
                  rintro e w5 ⟨rfl, rfl⟩
                  go_wp2_with fail
                  refine (HHD.out _ HB2.out).mono ?_
                  rintro e w6 ⟨rfl, b6⟩
                  have B6 := andThen HB2.out b6
                  clear b6
                  go_wp2_with fail
                  refine (HSTR.out _).mono ?_
                  rintro e w7 ⟨rfl, rfl⟩
                  go_wp2
                  go_ret3
                  exact ⟨by rw [HF.out]; rfl, B6⟩
                | false =>
                  have HN : Hid (con s (p + d) (L ++ Y) E = Z) := by show _ = _; rw [← HL.out]; exact HO4.out rfl
                  clear HR4 HO4 HL
                  go_wp2_with fail
                  refine (HCT.out _).mono ?_
                  rintro e w5 ⟨rfl, rfl⟩
                  go_wp2_with fail
                  refine (HHD.out _ HB2.out).mono ?_
                  rintro e w6 ⟨rfl, b6⟩
                  have B6 := andThen HB2.out b6
                  have HR6 : Hid (Ro w.heap.size w6 (.slice ao3 L.length cap3) L) := HR2.out.kept b6
                  have hI6 := (b6.block w.heap.size (Array.getElem?_eq_some_iff.1 HI2.out).1).trans HI2.out
                  have hs6 := B6.size
                  clear b6
                  go_wp2_with fail
                  refine (HSTR.out _).mono ?_
                  rintro e w7 ⟨rfl, rfl⟩
                  go_wp2_with fail
                  refine (HAR.out _ _ HR6.out hs6).mono ?_
                  rintro e w8 ⟨v8, rfl, hr8, hg8⟩
                  obtain ⟨ao8, cap8, e8⟩ := hr8.shape
                  rw [List.length_append] at e8
                  subst e8
                  have HRL : Hid (Ro w.heap.size w8 (.slice ao8 (L.length + Y.length) cap8) (L ++ Y) ∧ w8.heap[w.heap.size]? = some (.stringIter s (p + d)) ∧ Below w.heap.size w w8) := ⟨hr8, iter_grown HR6.out hI6 hg8, HR6.out.below B6 hg8⟩
                  have HPS : Hid (w8.iterPos w.heap.size = p + d) := iter_pos HRL.out.2.1
                  clear hr8 hg8 HR6 hI6 B6
                  go_wp2
                  go_roundw
                  case rel => exact ⟨p + d, L ++ Y, E, HRL.out.1, rfl, HN.out, HEL.out, by omega, hd.2.1, HRL.out.2.1, HRL.out.2.2⟩
                  case measure => rw [HPS.out, HPOS.out]; omega
    · have hnx : ∀ ty, (Instr.next (.pointer (some ⟨w.heap.size, 0, none⟩)) true ty).run Tryd.prog wr = _ := fun ty => run_next_over wr w.heap.size s p ty hit hlt
      have HF : Hid (Z = (⟨#[]⟩, 0, 25)) := by show _ = _; rw [← HL.out]; exact con_out s p L E hlt
      clear hro hit HL
      go_wp2
      go_ret3
      exact ⟨by rw [HF.out]; rfl, hbel⟩
end Go.Proofs.YtbabckchfabbkaaDoor
