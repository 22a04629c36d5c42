import Derived.Test.YtppabcihbpbfpaaGreatDoorQK10
/-
  Package disk: Load.
-/
namespace Go.Proofs.YtppabcihbpbfpaaGreatDoor
open Go Go.RowKit Go.ChangeShapes
open Wb

namespace Dk
/-- the disk behind these Creates -/
def crs (q : Int) (xs : List ((List UInt8 × List Nat) × Nat)) : DS := xs.foldl (fun S x => crt S x.1.1 x.2) (new q)
/-- behind these Appends and Syncs -/
def aps (S : DS) (xs : List (List UInt8 × List Nat)) : DS := xs.foldl (fun S x => syn (app S x.1 x.2) x.1) S
theorem crs_snoc (q : Int) (xs : List ((List UInt8 × List Nat) × Nat)) (x : (List UInt8 × List Nat) × Nat) : crs q (xs ++ [x]) = crt (crs q xs) x.1.1 x.2 := by
  unfold crs
  rw [List.foldl_append]
  rfl
theorem aps_snoc (S : DS) (xs : List (List UInt8 × List Nat)) (x : List UInt8 × List Nat) : aps S (xs ++ [x]) = syn (app (aps S xs) x.1 x.2) x.1 := by
  unfold aps
  rw [List.foldl_append]
  rfl
theorem zip_snoc {α β : Type} : ∀ (fs : List α) (l : List β) (f : β) (h : l.length < fs.length), fs.zip (l ++ [f]) = fs.zip l ++ [(fs[l.length], f)]
  | [], l, f, h => by simp at h
  | x :: r, [], f, _ => by simp
  | x :: r, y :: l, f, h => by
    have h9 := zip_snoc r l f (by simpa using h)
    rw [List.cons_append, List.zip_cons_cons, h9]
    rfl
theorem crt_arm {S : DS} (h : S.armed = false) (s : List UInt8) (f : Nat) : (crt S s f).armed = false := by
  unfold crt mk
  rw [cnt_un h]
  repeat' split
  all_goals exact h
theorem app_arm {S : DS} (h : S.armed = false) (s : List UInt8) (l : List Nat) : (app S s l).armed = false := by
  unfold app
  rw [cnt_un h]
  repeat' split
  all_goals exact h
theorem syn_arm {S : DS} (h : S.armed = false) (s : List UInt8) : (syn S s).armed = false := by
  unfold syn
  rw [cnt_un h]
  repeat' split
  all_goals exact h
/-- the error of the first call that is refused, if any -/
def LdE (q : Int) (fs : List (List UInt8 × List Nat)) (l : List Nat) (k : Nat) : Prop := (∀ i (h : i < fs.length), i < l.length → crtE (crs q ((fs.zip l).take i)) fs[i].1 = 0) ∧ ∀ i (h : i < fs.length), i < k → appE (aps (crs q (fs.zip l)) (fs.take i)) fs[i].1 fs[i].2 = 0
end Dk
/-- what Load leaves -/
def LdPost (q : Int) (fs : List (List UInt8 × List Nat)) (w : World) (e : Ending) (w' : World) : Prop :=
  Below w.heap.size w w' ∧ ((¬ (0 ≤ q ∧ q ≤ 4194304) ∧ e = .returned (.tuple #[.pointer none, .int .i64 1])) ∨
    ((0 ≤ q ∧ q ≤ 4194304) ∧ ∃ l k, Dk.LdE q fs l k ∧ Dk.WF (Dk.crs q (fs.zip l)) l.length ∧
      ((∃ h : l.length < fs.length, k = 0 ∧ Dk.crtE (Dk.crs q (fs.zip l)) fs[l.length].1 ≠ 0 ∧ e = .returned (.tuple #[.pointer none, .int .i64 (Dk.crtE (Dk.crs q (fs.zip l)) fs[l.length].1)])) ∨
       (l.length = fs.length ∧ ∃ h : k < fs.length, Dk.appE (Dk.aps (Dk.crs q (fs.zip l)) (fs.take k)) fs[k].1 fs[k].2 ≠ 0 ∧ e = .returned (.tuple #[.pointer none, .int .i64 (Dk.appE (Dk.aps (Dk.crs q (fs.zip l)) (fs.take k)) fs[k].1 fs[k].2)])) ∨
       (l.length = fs.length ∧ k = fs.length ∧ ∃ g M, e = .returned (.tuple #[.pointer (some ⟨g, 0, none⟩), .int .i64 0]) ∧ DM w.heap.size w' g (Dk.sd (Dk.aps (Dk.crs q (fs.zip l)) fs)) M ∧ Dk.WF (Dk.sd (Dk.aps (Dk.crs q (fs.zip l)) fs)) fs.length))))
set_option maxRecDepth 100000 in
set_option maxHeartbeats 16000000 in
theorem dkload_any (q : Int) (ok1 : Nat → Prop) (v : Value) (fs : List (List UInt8 × List Nat)) (w : World) (hfs : Fls ok1 w v fs) (hn : fs.length ≤ 400000000) (hnm : ∀ x ∈ fs, x.1.length ≤ maxLen) :
    Calls Tryz.prog 8 #[.int .i64 q, v] w fun e w' => LdPost q fs w e w' := by
  have HFS : Hid (∀ W, Below w.heap.size w W → Fls ok1 W v fs) := fun W hW => hfs.kept hW
  have HF0 : Hid (Fls ok1 w v fs) := hfs
  have HNM : Hid (∀ x ∈ fs, x.1.length ≤ maxLen) := hnm
  have HNW := dknew_any q w
  obtain ⟨a, c, hv, h1, h2, -⟩ := hfs.sh
  subst hv
  unfold maxLen at h2
  have HNH : Hid (Calls Tryz.prog 22 #[.int .i64 q] w fun e w' => (¬ (0 ≤ q ∧ q ≤ 4194304) ∧ e = .returned (.tuple #[.pointer none, .int .i64 1]) ∧ w' = w) ∨ ((0 ≤ q ∧ q ≤ 4194304) ∧ e = .returned (.tuple #[.pointer (some ⟨w.heap.size, 0, none⟩), .int .i64 0]) ∧ DM w.heap.size w' w.heap.size (Dk.new q) mmN ∧ Below w.heap.size w w')) := HNW
  clear HNW hfs hnm
  go_enter Tryz.func8, Tryz.ntmps8
  go_wp2_with fail
  refine HNH.out.mono ?_
  rintro e W1 (⟨hq, rfl, rfl⟩ | ⟨hq, rfl, d1, b1⟩)
  · have HQ : Hid (¬ (0 ≤ q ∧ q ≤ 4194304)) := hq
    clear hq
    go_wp2_with fail
    go_returns
    exact ⟨Below.refl _ _, .inl ⟨HQ.out, rfl⟩⟩
  · have HQ : Hid (0 ≤ q ∧ q ≤ 4194304) := hq
    have H1 : Hid (DM w.heap.size W1 w.heap.size (Dk.new q) mmN ∧ Below w.heap.size w W1) := ⟨d1, b1⟩
    clear hq d1 b1 HNH
    obtain ⟨g, hg⟩ : ∃ g, g = w.heap.size := ⟨_, rfl⟩
    have HG : Hid (g = w.heap.size) := hg
    have H2 : Hid (DM w.heap.size W1 g (Dk.new q) mmN ∧ Below w.heap.size w W1) := by
      rw [hg]
      exact H1.out
    rw [← hg]
    clear hg H1
    go_wp2_with fail
    go_loopw [24] (fun i wr => ∃ (l : List Nat) (M : Mm), l.length ≤ fs.length ∧ i = .int .i64 (l.length : Int) ∧ (∀ i (h : i < fs.length), i < l.length → Dk.crtE (Dk.crs q ((fs.zip l).take i)) fs[i].1 = 0) ∧ DM w.heap.size wr g (Dk.crs q (fs.zip l)) M ∧ Dk.WF (Dk.crs q (fs.zip l)) l.length ∧ (Dk.crs q (fs.zip l)).armed = false ∧ Below w.heap.size w wr) (fun i _ => fs.length - (intOf i).toNat)
    case atStart => exact ⟨[], mmN, Nat.zero_le _, rfl, fun i _ h => absurd h (Nat.not_lt_zero _), by rw [List.zip_nil_right]; exact H2.out.1, by rw [List.zip_nil_right]; exact Dk.WF.new q HQ.out.1 HQ.out.2, by rw [List.zip_nil_right]; rfl, H2.out.2⟩
    case round =>
      obtain ⟨l, M, hl, rfl, hc, hd, hw, har, hb⟩ := hrel
      have HR : Hid ((∀ i (h : i < fs.length), i < l.length → Dk.crtE (Dk.crs q ((fs.zip l).take i)) fs[i].1 = 0) ∧ DM w.heap.size wr g (Dk.crs q (fs.zip l)) M ∧ Dk.WF (Dk.crs q (fs.zip l)) l.length ∧ (Dk.crs q (fs.zip l)).armed = false ∧ Below w.heap.size w wr) := ⟨hc, hd, hw, har, hb⟩
      clear hc hd hw har hb
      by_cases hlt : l.length < fs.length
      · obtain ⟨a9, c9, e9, -, -, hh⟩ := (HFS.out wr HR.out.2.2.2.2).sh
        obtain ⟨b, off, ha9, -, hcell⟩ := hh (List.ne_nil_of_length_pos (by omega))
        simp only [Value.slice.injEq] at e9
        obtain ⟨rfl, -, -⟩ := e9
        subst ha9
        obtain ⟨p0, dv, p1, s1, -⟩ := hcell l.length hlt
        obtain ⟨nm, hnm⟩ : ∃ nm, nm = fs[l.length].1 := ⟨_, rfl⟩
        have HN : Hid (nm = fs[l.length].1 ∧ nm.length ≤ maxLen) := ⟨hnm, by rw [hnm]; exact HNM.out _ (List.getElem_mem hlt)⟩
        rw [← hnm] at p0
        obtain ⟨x1, y1, hdv, -⟩ := s1.shape
        generalize fs[l.length].2.length = n1 at hdv
        subst hdv
        unfold enS at p0
        clear hcell hh s1 hnm
        go_upto_region 7 with fail
        have bw := up0 wr (.cells #[.string ⟨nm.toArray⟩, .slice x1 n1 y1] 34)
        have lw := lb_new wr [.string ⟨nm.toArray⟩, .slice x1 n1 y1] 34
        have c0 := lw.cell 0 _ rfl
        obtain ⟨E, hE⟩ : ∃ E, E = Dk.crtE (Dk.crs q (fs.zip l)) nm := ⟨_, rfl⟩
        have HE : Hid (E = Dk.crtE (Dk.crs q (fs.zip l)) nm) := hE
        have eN : (⟨nm.toArray⟩ : ByteArray).data.toList = nm := by simp
        have HCR : Hid (Calls Tryz.prog 23 #[.pointer (some ⟨g, 0, none⟩), .string ⟨nm.toArray⟩] (wr.alloc (.cells #[.string ⟨nm.toArray⟩, .slice x1 n1 y1] 34)) fun e w' => ∃ f M', e = .returned (.int .i64 E) ∧ f ∉ (Dk.crs q (fs.zip l)).ids ∧ DM w.heap.size w' g (Dk.crt (Dk.crs q (fs.zip l)) nm f) M' ∧ Below w.heap.size w w') := by
          have d9 := HR.out.2.1.kept bw
          have b9 := andThen HR.out.2.2.2.2 bw
          have h9 := dkcreate_any _ g _ _ ⟨nm.toArray⟩ _ d9 b9.size (by show nm.toArray.size ≤ _; rw [List.size_toArray]; exact HN.out.2) HR.out.2.2.1.ar (by have := HR.out.2.2.1.n1; omega) (by have := HR.out.2.2.1.n3; omega)
          rw [eN, ← hE] at h9
          refine h9.mono fun e w' ⟨f, h1, h2, h3⟩ => ?_
          obtain ⟨M', h4, h5, -⟩ := h3.out d9 b9.size
          exact ⟨f, M', h2, fun e => by
            have h8 := (d9.ft (q := f) (.inr (.inr (.inr (.inr ⟨f, e, .inl rfl⟩))))).2
            omega, h4, b9.trans h5⟩
        clear lw bw eN hE p0 p1
        go_wp2_with fail
        refine HCR.out.mono ?_
        rintro e W2 ⟨f, M', rfl, hf, d2, b2⟩
        by_cases hE0 : E = 0
        · have HX : Hid ((∀ i (h : i < fs.length), i < (l ++ [f]).length → Dk.crtE (Dk.crs q ((fs.zip (l ++ [f])).take i)) fs[i].1 = 0) ∧ DM w.heap.size W2 g (Dk.crs q (fs.zip (l ++ [f]))) M' ∧ Dk.WF (Dk.crs q (fs.zip (l ++ [f]))) (l ++ [f]).length ∧ (Dk.crs q (fs.zip (l ++ [f]))).armed = false ∧ Below w.heap.size w W2) := by
            have hz := Dk.zip_snoc fs l f hlt
            have hS : Dk.crs q (fs.zip (l ++ [f])) = Dk.crt (Dk.crs q (fs.zip l)) nm f := by rw [hz, Dk.crs_snoc, HN.out.1]
            refine ⟨fun i h hi => ?_, by rw [hS]; exact d2, by rw [hS, List.length_append]; exact HR.out.2.2.1.crt nm f hf, by rw [hS]; exact Dk.crt_arm HR.out.2.2.2.1 nm f, b2⟩
            have hzl : (fs.zip l).length = l.length := by rw [List.length_zip]; omega
            rw [List.length_append, List.length_singleton] at hi
            rcases Nat.lt_or_ge i l.length with h8 | h8
            · rw [hz, List.take_append_of_le_length (by omega)]
              exact HR.out.1 i h h8
            · obtain rfl : i = l.length := by omega
              rw [hz, List.take_append_of_le_length (by omega), List.take_of_length_le (by omega), ← HN.out.1, ← HE.out]
              exact hE0
          subst hE0
          clear hf d2 b2 HCR c0
          go_wp2_with fail
          go_roundw
          case rel => exact ⟨l ++ [f], M', by rw [List.length_append, List.length_singleton]; omega, by rw [List.length_append, List.length_singleton]; go_num, HX.out.1, HX.out.2.1, HX.out.2.2.1, HX.out.2.2.2.1, HX.out.2.2.2.2⟩
          case measure => simp [intOf]; omega
        · have e0 : (E != 0) = true := by simpa using hE0
          have HB2 : Hid (Below w.heap.size w W2 ∧ E ≠ 0) := ⟨b2, hE0⟩
          clear hf d2 b2 HCR c0 hE0
          go_wp2_with fail
          go_returns
          refine ⟨HB2.out.1, .inr ⟨HQ.out, l, 0, ⟨HR.out.1, fun i _ h => absurd h (Nat.not_lt_zero _)⟩, HR.out.2.2.1, .inl ⟨hlt, rfl, ?_, ?_⟩⟩⟩
          · rw [← HN.out.1, ← HE.out]
            exact HB2.out.2
          · rw [← HN.out.1, ← HE.out]
            rfl
      · obtain ⟨L, hL⟩ : ∃ L, L = l := ⟨_, rfl⟩
        obtain ⟨S0, hS0⟩ : ∃ S0, S0 = Dk.crs q (fs.zip l) := ⟨_, rfl⟩
        have HL0 : Hid (l.length = fs.length ∧ S0 = Dk.crs q (fs.zip l)) := ⟨by omega, hS0⟩
        have HQ0 : Hid (DM w.heap.size wr g S0 M ∧ Dk.WF S0 fs.length ∧ S0.armed = false ∧ Below w.heap.size w wr) := by
          rw [HL0.out.2]
          exact ⟨HR.out.2.1, HL0.out.1 ▸ HR.out.2.2.1, HR.out.2.2.2.1, HR.out.2.2.2.2⟩
        clear hS0 hL
        obtain ⟨w9, hw9⟩ : ∃ x, x = wr := ⟨_, rfl⟩
        subst hw9
        go_wp2_with fail
        clear hl hlt
        go_loopw [38] (fun i wr => ∃ (k : Nat) (M : Mm), k ≤ fs.length ∧ i = .int .i64 (k : Int) ∧ (∀ i (h : i < fs.length), i < k → Dk.appE (Dk.aps S0 (fs.take i)) fs[i].1 fs[i].2 = 0) ∧ DM w.heap.size wr g (Dk.aps S0 (fs.take k)) M ∧ Dk.WF (Dk.aps S0 (fs.take k)) fs.length ∧ (Dk.aps S0 (fs.take k)).armed = false ∧ Below w.heap.size w wr) (fun i _ => fs.length - (intOf i).toNat)
        case atStart => exact ⟨0, M, Nat.zero_le _, rfl, fun i _ h => absurd h (Nat.not_lt_zero _), HQ0.out.1, HQ0.out.2.1, HQ0.out.2.2.1, HQ0.out.2.2.2⟩
        case round =>
          obtain ⟨k, M2, hk, rfl, hc, hd, hw, har, hb⟩ := hrel
          have HR2 : Hid ((∀ i (h : i < fs.length), i < k → Dk.appE (Dk.aps S0 (fs.take i)) fs[i].1 fs[i].2 = 0) ∧ DM w.heap.size wr g (Dk.aps S0 (fs.take k)) M2 ∧ Dk.WF (Dk.aps S0 (fs.take k)) fs.length ∧ (Dk.aps S0 (fs.take k)).armed = false ∧ Below w.heap.size w wr) := ⟨hc, hd, hw, har, hb⟩
          clear hc hd hw har hb
          by_cases hlt : k < fs.length
          · obtain ⟨a9, c9, e9, -, -, hh⟩ := (HFS.out wr HR2.out.2.2.2.2).sh
            obtain ⟨b, off, ha9, -, hcell⟩ := hh (List.ne_nil_of_length_pos (by omega))
            simp only [Value.slice.injEq] at e9
            obtain ⟨rfl, -, -⟩ := e9
            subst ha9
            obtain ⟨p0, dv, p1, s1, -⟩ := hcell k hlt
            obtain ⟨dv0, hz1, hz2⟩ : ∃ dv0, w.cell? ⟨b, off + k * 2 + 1, none⟩ = some dv0 ∧ Bs w dv0 fs[k].2 := by
              obtain ⟨a8, c8, e8, -, -, h8⟩ := HF0.out.sh
              obtain ⟨b8, o8, e7, -, h7⟩ := h8 (List.ne_nil_of_length_pos (by omega))
              simp only [Value.slice.injEq] at e8
              rw [e7] at e8
              obtain ⟨e6, -, -⟩ := e8
              simp only [Option.some.injEq, Addr.mk.injEq, and_true] at e6
              obtain ⟨rfl, rfl⟩ := e6
              obtain ⟨-, dv0, z1, z2, -⟩ := h7 k hlt
              exact ⟨dv0, z1, z2⟩
            have hdd : dv0 = dv := by
              have h8 := (HR2.out.2.2.2.2.cell (p := ⟨b, _, none⟩) (World.block_lt_of_cell? _ _ hz1)).trans hz1
              rw [p1] at h8
              exact (Option.some.inj h8).symm
            subst hdd
            obtain ⟨nm, hnm⟩ : ∃ nm, nm = fs[k].1 := ⟨_, rfl⟩
            obtain ⟨dl, hdl⟩ : ∃ dl, dl = fs[k].2 := ⟨_, rfl⟩
            have HN : Hid (nm = fs[k].1 ∧ dl = fs[k].2 ∧ nm.length ≤ maxLen) := ⟨hnm, hdl, by rw [hnm]; exact HNM.out _ (List.getElem_mem hlt)⟩
            rw [← hnm] at p0
            rw [← hdl] at s1 hz2
            obtain ⟨x1, y1, hdv, -⟩ := s1.shape
            subst hdv
            have HBS : Hid (Bs w (.slice x1 dl.length y1) dl) := hz2
            unfold enS at p0
            clear hcell hh s1 hnm hdl hz1 hz2
            go_upto_region 14 with fail
            have bw := up0 wr (.cells #[.string ⟨nm.toArray⟩, .slice x1 dl.length y1] 34)
            have lw := lb_new wr [.string ⟨nm.toArray⟩, .slice x1 dl.length y1] 34
            obtain ⟨p, hp⟩ : ∃ p, p = wr.heap.size := ⟨_, rfl⟩
            obtain ⟨Wp, hWp⟩ : ∃ W, W = wr.alloc (.cells #[.string ⟨nm.toArray⟩, .slice x1 dl.length y1] 34) := ⟨_, rfl⟩
            rw [← hWp, ← hp] at lw
            rw [← hWp] at bw
            rw [← hWp, ← hp]
            have c0 := lw.cell 0 _ rfl
            have c1 := lw.cell 1 _ rfl
            obtain ⟨S2, hS2⟩ : ∃ S2, S2 = Dk.aps S0 (fs.take k) := ⟨_, rfl⟩
            obtain ⟨E, hE⟩ : ∃ E, E = Dk.appE S2 nm dl := ⟨_, rfl⟩
            have HE : Hid (E = Dk.appE S2 nm dl ∧ S2 = Dk.aps S0 (fs.take k)) := ⟨hE, hS2⟩
            have eN : (⟨nm.toArray⟩ : ByteArray).data.toList = nm := by simp
            have hR2 := HR2.out
            rw [← hS2] at hR2
            obtain ⟨-, hdm, hwf, har, hbl⟩ := hR2
            have HD2 : Hid (DM w.heap.size wr g S2 M2 ∧ Dk.WF S2 fs.length ∧ S2.armed = false ∧ Below w.heap.size w wr) := ⟨hdm, hwf, har, hbl⟩
            have HAP : Hid (Calls Tryz.prog 24 #[.pointer (some ⟨g, 0, none⟩), .string ⟨nm.toArray⟩, .slice x1 dl.length y1] Wp fun e w' => ∃ M', e = .returned (.int .i64 E) ∧ DM w.heap.size w' g (Dk.app S2 nm dl) M' ∧ Below w.heap.size w w' ∧ LB w' p 34 [.string ⟨nm.toArray⟩, .slice x1 dl.length y1]) := by
              have d9 := hdm.kept bw
              have b9 := andThen hbl bw
              have h9 := dkappend_any _ g _ _ ⟨nm.toArray⟩ _ dl _ d9 b9.size (by show nm.toArray.size ≤ _; rw [List.size_toArray]; exact HN.out.2.2) hwf.ar hwf.ids (HBS.out.kept b9) (fun hne k ⟨x, y, z, e⟩ hk => by
                simp only [Value.slice.injEq] at e
                have h8 := Bs.old HBS.out hne k x e.1
                have h7 := (d9.ft hk).1
                omega) ⟨hwf.t0, hwf.tk, hwf.q⟩ (fun f hf => by have := (hwf.fl f hf).2; omega)
              rw [eN, ← hE] at h9
              refine h9.mono fun e w' ⟨h2, h3⟩ => ?_
              obtain ⟨M', h4, h5, -⟩ := h3.out d9 b9.size
              obtain ⟨M9, -, h6, -⟩ := h3
              refine ⟨M', h2, h4, b9.trans h5, ?_⟩
              have hpl : p < Wp.heap.size := by unfold LB at lw; exact (Array.getElem?_eq_some_iff.1 lw).1
              unfold LB at lw ⊢
              rw [h6.block p hpl fun e => by
                have h8 := (hdm.ft e).2
                omega]
              exact lw
            clear lw bw hWp hE hS2 p0 p1 hdm hwf har hbl hp
            go_wp2_with fail
            refine HAP.out.mono ?_
            rintro e W2 ⟨M3, rfl, d2, b2, l2⟩
            by_cases hE0 : E = 0
            · have c2 := l2.cell 0 _ rfl
              have HSY : Hid (Calls Tryz.prog 25 #[.pointer (some ⟨g, 0, none⟩), .string ⟨nm.toArray⟩] W2 fun e w' => ∃ M' E', e = .returned (.int .i64 E') ∧ DM w.heap.size w' g (Dk.syn (Dk.app S2 nm dl) nm) M' ∧ Below w.heap.size w w') := by
                have hwf := HD2.out.2.1.app nm dl
                have h9 := dksync_any _ g _ _ ⟨nm.toArray⟩ _ d2 b2.size (by show nm.toArray.size ≤ _; rw [List.size_toArray]; exact HN.out.2.2) hwf.ar hwf.ids
                have eM : (⟨nm.toArray⟩ : ByteArray).data.toList = nm := by simp
                rw [eM] at h9
                refine h9.mono fun e w' ⟨h2, h3⟩ => ?_
                obtain ⟨M', h4, h5, -⟩ := h3.out d2 b2.size
                exact ⟨M', _, h2, h4, b2.trans h5⟩
              subst hE0
              clear d2 b2 l2 HAP c0 c1 eN
              go_wp2_with fail
              refine HSY.out.mono ?_
              rintro e W3 ⟨M4, E', rfl, d3, b3⟩
              have HX : Hid ((∀ i (h : i < fs.length), i < k + 1 → Dk.appE (Dk.aps S0 (fs.take i)) fs[i].1 fs[i].2 = 0) ∧ DM w.heap.size W3 g (Dk.aps S0 (fs.take (k + 1))) M4 ∧ Dk.WF (Dk.aps S0 (fs.take (k + 1))) fs.length ∧ (Dk.aps S0 (fs.take (k + 1))).armed = false ∧ Below w.heap.size w W3) := by
                have hS : Dk.aps S0 (fs.take (k + 1)) = Dk.syn (Dk.app S2 nm dl) nm := by
                  rw [List.take_succ_eq_append_getElem hlt, Dk.aps_snoc, ← HE.out.2, ← HN.out.1, ← HN.out.2.1]
                rw [hS]
                refine ⟨fun i h hi => ?_, d3, (HD2.out.2.1.app nm dl).syn nm, Dk.syn_arm (Dk.app_arm HD2.out.2.2.1 nm dl) nm, b3⟩
                rcases Nat.lt_or_ge i k with h8 | h8
                · exact HR2.out.1 i h h8
                · obtain rfl : i = k := by omega
                  rw [← HN.out.1, ← HN.out.2.1, ← HE.out.2]
                  exact HE.out.1.symm
              clear d3 b3 HSY c2
              go_wp2_with fail
              go_roundw
              case rel => exact ⟨k + 1, M4, by omega, by go_num, HX.out.1, HX.out.2.1, HX.out.2.2.1, HX.out.2.2.2.1, HX.out.2.2.2.2⟩
              case measure => simp [intOf]; omega
            · have e0 : (E != 0) = true := by simpa using hE0
              have HB2 : Hid (Below w.heap.size w W2 ∧ E ≠ 0) := ⟨b2, hE0⟩
              clear d2 b2 l2 HAP c0 c1 hE0 eN
              go_wp2_with fail
              go_returns
              have hh : Dk.appE (Dk.aps (Dk.crs q (fs.zip l)) (fs.take k)) fs[k].1 fs[k].2 = E := by rw [← HL0.out.2, ← HE.out.2, ← HN.out.1, ← HN.out.2.1, ← HE.out.1]
              refine ⟨HB2.out.1, .inr ⟨HQ.out, l, k, ⟨HR.out.1, by rw [← HL0.out.2]; exact HR2.out.1⟩, HR.out.2.2.1, .inr (.inl ⟨HL0.out.1, hlt, ?_, ?_⟩)⟩⟩
              · rw [hh]
                exact HB2.out.2
              · rw [hh]
                rfl
          · have HKL : Hid (k = fs.length ∧ Dk.aps S0 (fs.take k) = Dk.aps S0 fs) := ⟨by omega, by rw [List.take_of_length_le (by omega)]⟩
            have hR2 := HR2.out
            rw [HKL.out.2] at hR2
            obtain ⟨-, hdm, hwf, har, hbl⟩ := hR2
            have HSD : Hid (Calls Tryz.prog 26 #[.pointer (some ⟨g, 0, none⟩)] wr fun e w' => ∃ M' E', e = .returned (.int .i64 E') ∧ DM w.heap.size w' g (Dk.sd (Dk.aps S0 fs)) M' ∧ Dk.WF (Dk.sd (Dk.aps S0 fs)) fs.length ∧ Below w.heap.size w w') := (dksyncdir_any _ g _ _ wr hdm hbl.size hwf.ar hwf.ids (by have := hwf.tot; have := hwf.tk; have := hwf.q; omega)).mono fun e w' ⟨h2, h3⟩ => by
              obtain ⟨M', h4, h5, -⟩ := h3.out hdm hbl.size
              exact ⟨M', _, h2, h4, hwf.sd, hbl.trans h5⟩
            clear hdm hwf har hbl
            go_wp2_with fail
            refine HSD.out.mono ?_
            rintro e W3 ⟨M4, E', rfl, d3, wf3, b3⟩
            have HZ : Hid (DM w.heap.size W3 g (Dk.sd (Dk.aps S0 fs)) M4 ∧ Dk.WF (Dk.sd (Dk.aps S0 fs)) fs.length ∧ Below w.heap.size w W3) := ⟨d3, wf3, b3⟩
            clear d3 wf3 b3 HSD
            go_wp2_with fail
            go_returns
            refine ⟨HZ.out.2.2, .inr ⟨HQ.out, l, k, ⟨HR.out.1, by rw [← HL0.out.2]; exact HR2.out.1⟩, HR.out.2.2.1, .inr (.inr ⟨HL0.out.1, HKL.out.1, g, M4, rfl, ?_, ?_⟩)⟩⟩
            · rw [← HL0.out.2]
              exact HZ.out.1
            · rw [← HL0.out.2]
              exact HZ.out.2.1
end Go.Proofs.YtppabcihbpbfpaaGreatDoor

/-
  Package disk: the names that a crash may leave are those of an earlier moment.
-/
namespace Go.Proofs.YtppabcihbpbfpaaGreatDoor
open Go Go.RowKit Go.ChangeShapes
namespace Dk
/-- the names behind the first changes -/
def pre (S : DS) (j : Nat) : Nm := lvF (S.ch.take j) S.la
/-- all names since the last SyncDir stand for files that are counted, one name a file -/
structure WG (S : DS) : Prop where
  nmE : S.nm = lvF S.ch S.la
  live : ∃ L : List Nat, L.Nodup ∧ (∀ f ∈ L, f ∈ S.ids) ∧ S.taken = (fsum S.fo L : Int) ∧ ∀ j, ((pre S j).map (·.2)).Nodup ∧ ∀ p ∈ pre S j, p.2 ∈ L
section
variable {S : DS}
theorem pre_all (S : DS) {j : Nat} (h : S.ch.length ≤ j) : pre S j = lvF S.ch S.la := by
  unfold pre
  rw [List.take_of_length_le h]
theorem WG.new (q : Int) : WG (new q) := ⟨rfl, [], List.nodup_nil, (fun f hf => by cases hf), rfl, fun j => by
  have e : pre (Dk.new q) j = [] := by
    unfold pre
    show lvF (([] : List Ch).take j) [] = []
    rw [List.take_nil]
    rfl
  rw [e]
  exact ⟨List.nodup_nil, fun p hp => by cases hp⟩⟩
/-- nothing of names or files is other -/
theorem WG.same {T : DS} (h : WG S) (h1 : T.nm = S.nm) (h2 : T.la = S.la) (h3 : T.ch = S.ch) (h4 : T.ids = S.ids) (h5 : T.fo = S.fo) (h6 : T.taken = S.taken) : WG T := by
  obtain ⟨L, l1, l2, l3, l4⟩ := h.live
  refine ⟨by rw [h1, h2, h3]; exact h.nmE, L, l1, by rw [h4]; exact l2, by rw [h5, h6]; exact l3, fun j => ?_⟩
  have e : pre T j = pre S j := by unfold pre; rw [h2, h3]
  rw [e]
  exact l4 j
theorem WG.cnt (h : WG S) : WG (cnt S).2 := by
  obtain ⟨e1, e2, e3, e4, e5, e6, e7⟩ := cnt_same S
  exact h.same e3 e4 e5 e6 e7 e2
theorem WG.upd (h : WG S) {s : List UInt8} {f : Nat} (hg : get S.nm s = some f) (x : Fl) (t : Int) (ht : t = S.taken + x.data.length - (S.fo f).data.length) : WG { S with fo := Dk.upd S.fo f x, taken := t } := by
  obtain ⟨L, l1, l2, l3, l4⟩ := h.live
  have hf : f ∈ L := by
    have h9 := (l4 S.ch.length).2
    rw [pre_all S (Nat.le_refl _), ← h.nmE] at h9
    exact h9 _ (get_mem hg)
  have h9 := fsum_upd S.fo f x L l1 hf
  exact ⟨h.nmE, L, l1, l2, by show t = (fsum (Dk.upd S.fo f x) L : Int); omega, l4⟩
theorem WG.syn (h : WG S) (s : List UInt8) : WG (syn S s) := by
  unfold Dk.syn
  split
  · rename_i hf
    split
    · obtain ⟨e1, e2, e3, -, -, -, e7⟩ := cnt_same S
      exact h.cnt.upd (s := s) (f := fil S s) (by rw [e3]; exact (find_some hf).1) ⟨_, _⟩ _ (by simp)
    · exact h.cnt
  · exact h
theorem WG.app (h : WG S) (s : List UInt8) (l : List Nat) : WG (app S s l) := by
  unfold Dk.app
  split
  · rename_i hf
    split
    · obtain ⟨e1, e2, e3, -, -, -, e7⟩ := cnt_same S
      refine h.cnt.upd (s := s) (f := fil S s) (by rw [e3]; exact (find_some hf.1).1) ⟨_, _⟩ _ ?_
      rw [e2, e7]
      simp only [List.length_append]
      omega
    · exact h.cnt
  · exact h
theorem WG.tru (h : WG S) (s : List UInt8) (n : Int) : WG (tru S s n) := by
  unfold Dk.tru
  split
  · rename_i hf
    split
    · obtain ⟨e1, e2, e3, -, -, -, e7⟩ := cnt_same S
      have hb := hf.2
      unfold bad at hb
      have hb2 := of_decide_eq_false hb
      have hl : ((S.fo (fil S s)).data.take n.toNat).length = n.toNat := by
        rw [List.length_take]
        omega
      refine h.cnt.upd (s := s) (f := fil S s) (by rw [e3]; exact (find_some hf.1).1) ⟨_, _⟩ _ ?_
      rw [e2, e7]
      simp only [hl]
      omega
    · exact h.cnt
  · exact h
theorem pre_snoc (S : DS) (c : Ch) (j : Nat) : lvF ((S.ch ++ [c]).take j) S.la = if j ≤ S.ch.length then pre S j else c.app (lvF S.ch S.la) := by
  unfold pre
  split
  · rename_i hj
    rw [List.take_append_of_le_length hj]
  · rename_i hj
    rw [List.take_of_length_le (by rw [List.length_append, List.length_singleton]; omega), lvF_snoc]
theorem WG.names (h : WG S) (c : Ch) (ht : c.tow ≠ [] → ∃ f, c.f = some f ∧ (c.frm, f) ∈ S.nm) : WG { S with nm := c.app S.nm, ch := S.ch ++ [c] } := by
  obtain ⟨L, l1, l2, l3, l4⟩ := h.live
  have hn := l4 S.ch.length
  rw [pre_all S (Nat.le_refl _), ← h.nmE] at hn
  refine ⟨?_, L, l1, l2, l3, fun j => ?_⟩
  · show c.app S.nm = lvF (S.ch ++ [c]) S.la
    rw [lvF_snoc, ← h.nmE]
  · show ((lvF ((S.ch ++ [c]).take j) S.la).map (·.2)).Nodup ∧ ∀ p ∈ lvF ((S.ch ++ [c]).take j) S.la, p.2 ∈ L
    rw [pre_snoc S c j]
    split
    · exact l4 j
    · rw [← h.nmE]
      unfold Ch.app
      split
      · exact ⟨inj_del hn.1 _, fun p hp => hn.2 p (mem_del.1 hp).1⟩
      · rename_i hne
        obtain ⟨f, ef, hfm⟩ := ht hne
        rw [ef]
        refine ⟨inj_put (inj_del hn.1 _) _ _ fun p hp e9 => ?_, fun p hp => ?_⟩
        · have h9 := inj_of hn.1 p (mem_del.1 hp).1 _ hfm e9
          exact absurd (by rw [h9]) (mem_del.1 hp).2
        · rcases mem_put.1 hp with e9 | e9
          · rw [e9]
            exact hn.2 (c.frm, f) hfm
          · exact hn.2 p (mem_del.1 e9.1).1
theorem WG.rem (h : WG S) (s : List UInt8) : WG (rem S s) := by
  unfold Dk.rem
  split
  · split
    · exact h.cnt.names ⟨s, [], none⟩ (fun e => absurd rfl e)
    · exact h.cnt
  · exact h
theorem WG.ren (h : WG S) (a b : List UInt8) : WG (ren S a b) := by
  unfold Dk.ren
  split
  · rename_i hf
    split
    · exact h.cnt.names ⟨a, b, some (fil S a)⟩ (fun _ => ⟨_, rfl, by rw [(cnt_same S).2.2.1]; exact get_mem (find_some hf.2).1⟩)
    · exact h.cnt
  · exact h
theorem WG.crt (h : WG S) (s : List UInt8) (f : Nat) (hf : f ∉ S.ids) : WG (crt S s f) := by
  unfold Dk.crt
  split
  · rename_i ha
    split
    · obtain ⟨e1, e2, e3, e4, e5, e6, e7⟩ := cnt_same S
      have hs := ask_one ha.1
      obtain ⟨L, l1, l2, l3, l4⟩ := h.live
      have hn := l4 S.ch.length
      rw [pre_all S (Nat.le_refl _), ← h.nmE] at hn
      have hfL : f ∉ L := fun e => hf (l2 f e)
      have hap : Ch.app ⟨[], s, some f⟩ S.nm = put (del S.nm []) s f := by
        unfold Ch.app
        rw [if_neg (isNm_len hs).1]
        rfl
      show WG ⟨(Dk.cnt S).2.quota, (Dk.cnt S).2.taken, Ch.app ⟨[], s, some f⟩ S.nm, (Dk.cnt S).2.la, S.ch ++ [⟨[], s, some f⟩], (Dk.cnt S).2.armed, (Dk.cnt S).2.left, (Dk.cnt S).2.down, (Dk.cnt S).2.ids ++ [f], Dk.upd (Dk.cnt S).2.fo f ⟨[], 0⟩⟩
      rw [e4, e6, e7, e1, e2]
      refine ⟨?_, f :: L, List.nodup_cons.2 ⟨hfL, l1⟩, ?_, ?_, fun j => ?_⟩
      · show Ch.app ⟨[], s, some f⟩ S.nm = lvF (S.ch ++ [⟨[], s, some f⟩]) S.la
        rw [lvF_snoc, ← h.nmE]
      · intro k hk
        rcases List.mem_cons.1 hk with e9 | e9
        · rw [e9]; simp
        · exact List.mem_append_left _ (l2 k e9)
      · show S.taken = (fsum (Dk.upd S.fo f ⟨[], 0⟩) (f :: L) : Int)
        rw [fsum_cons, fsum_not _ _ _ _ hfL, upd_same, l3]
        simp
      · show ((lvF ((S.ch ++ [(⟨[], s, some f⟩ : Ch)]).take j) S.la).map (·.2)).Nodup ∧ ∀ p ∈ lvF ((S.ch ++ [(⟨[], s, some f⟩ : Ch)]).take j) S.la, p.2 ∈ f :: L
        rw [pre_snoc S ⟨[], s, some f⟩ j]
        split
        · exact ⟨(l4 j).1, fun p hp => List.mem_cons_of_mem _ ((l4 j).2 p hp)⟩
        · rw [← h.nmE, hap]
          refine ⟨inj_put (inj_del hn.1 _) _ _ fun p hp e9 => absurd (by rw [← e9]; exact hn.2 p (mem_del.1 hp).1) hfL, fun p hp => ?_⟩
          rcases mem_put.1 hp with e9 | e9
          · rw [e9]; exact List.mem_cons_self ..
          · exact List.mem_cons_of_mem _ (hn.2 p (mem_del.1 e9.1).1)
    · exact h.cnt
  · exact h
theorem WG.sd (h : WG S) : WG (sd S) := by
  unfold Dk.sd
  split
  · split
    · obtain ⟨e1, e2, e3, e4, e5, e6, e7⟩ := cnt_same S
      obtain ⟨L, l1, l2, l3, l4⟩ := h.live
      have hn := l4 S.ch.length
      rw [pre_all S (Nat.le_refl _), ← h.nmE] at hn
      refine ⟨e3, S.nm.map (·.2), hn.1, ?_, ?_, fun j => ?_⟩
      · intro f hf
        show f ∈ (Dk.cnt S).2.ids
        rw [e6]
        obtain ⟨p, hp, rfl⟩ := List.mem_map.1 hf
        exact l2 _ (hn.2 p hp)
      · show (Dk.tot S.nm S.fo : Int) = (fsum (Dk.cnt S).2.fo _ : Int)
        rw [e7, tot_fsum]
      · have e : pre { (Dk.cnt S).2 with la := S.nm, ch := [], taken := (Dk.tot S.nm S.fo : Int) } j = S.nm := by
          unfold pre
          show lvF (([] : List Ch).take j) S.nm = _
          rw [List.take_nil]
          rfl
        rw [e]
        exact ⟨hn.1, fun p hp => List.mem_map.2 ⟨p, hp, rfl⟩⟩
    · exact h.cnt
  · exact h
theorem WG.do (h : WG S) (o : Rop) (f : Nat) (hf : f ∉ S.ids) : WG (doS S o f) := by
  unfold doS
  split
  · exact h.crt _ f hf
  split
  · exact h.app _ _
  split
  · exact h.syn _
  split
  · exact h.tru _ _
  split
  · exact h.ren _ _
  split
  · exact h.rem _
  · exact h.sd
theorem WG.arm (h : WG S) (n : Int) : WG (arm S n) := by
  unfold Dk.arm
  split
  · exact h
  · exact h.same rfl rfl rfl rfl rfl rfl
theorem kp_le (x : Fl) (k : Int) : kp x k ≤ x.data.length - x.syn := by
  unfold kp wth
  omega
theorem zr_le (x : Fl) (k z : Int) : zr x k z ≤ x.data.length - x.syn - kp x k := by
  unfold zr wth
  omega
theorem lv_len (x : Fl) (c : Int × Int) (_h : x.syn ≤ x.data.length) : (lv x c).length ≤ x.data.length := by
  unfold lv
  rw [List.length_append, List.length_take, List.length_replicate]
  have := kp_le x c.1
  have := zr_le x c.1 c.2
  omega
/-- all bytes synced: a crash leaves them -/
theorem lv_syn (d : List Nat) (c : Int × Int) : lv ⟨d, d.length⟩ c = d := by
  have h1 := kp_le ⟨d, d.length⟩ c.1
  have h2 := zr_le ⟨d, d.length⟩ c.1 c.2
  unfold lv
  have e1 : kp ⟨d, d.length⟩ c.1 = 0 := by simp only at h1; omega
  have e2 : zr ⟨d, d.length⟩ c.1 c.2 = 0 := by simp only at h2; omega
  rw [e1, e2]
  simp
/-- a crash that keeps every byte -/
theorem lv_all (x : Fl) (k z : Int) (h : x.syn ≤ x.data.length) (hk : (x.data.length : Int) ≤ k) : lv x (k, z) = x.data := by
  have e1 : kp x k = x.data.length - x.syn := by
    unfold kp wth
    omega
  have h2 := zr_le x k z
  have e2 : zr x k z = 0 := by omega
  unfold lv
  simp only [e1, e2]
  rw [List.take_of_length_le (by omega)]
  simp
end
end Dk
end Go.Proofs.YtppabcihbpbfpaaGreatDoor
