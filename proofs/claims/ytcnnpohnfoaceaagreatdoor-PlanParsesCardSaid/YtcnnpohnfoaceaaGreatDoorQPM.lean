import Derived.Lib.ItoaMem
import Derived.Test.YtcnnpohnfoaceaaGreatDoorQP7
/-
  The reference of plan: digits.
-/
namespace Go.Proofs.YtcnnpohnfoaceaaGreatDoor
open Go Go.RowKit
open Wb

theorem dgq_str (w : World) (t : TypeId) (b : UInt8) : (convert 92 9 (.slice (some ⟨w.heap.size, 0, none⟩) 1 1)).run Tryz.prog (w.alloc (.cells #[.int .u8 (b.toNat : Int)] t)) = .ok (.string ⟨#[b]⟩) (w.alloc (.cells #[.int .u8 (b.toNat : Int)] t)) :=
  run_convert_bytes_back _ 92 9 5 ⟨w.heap.size, 0, none⟩ 1 [b] Tryz.underlying92 Tryz.underlying5 Tryz.underlying9 (fun j hj => by
    rw [Addr.add_lit, Nat.zero_add, World.cell?_alloc_new]
    obtain rfl : j = 0 := by simpa using hj
    rfl)
theorem dgq_u8 (q : Nat) : (((48 + q % 10 : Nat) : Int)) = ((UInt8.ofNat (48 + q % 10)).toNat : Int) := by
  rw [UInt8.toNat_ofNat_of_lt' (show 48 + q % 10 < 256 by omega)]
theorem dgq_str10 (w : World) (t : TypeId) (q : Nat) : (convert 92 9 (.slice (some ⟨w.heap.size, 0, none⟩) 1 1)).run Tryz.prog (w.alloc (.cells #[.int .u8 (48 + (q : Int) % 10)] t)) = .ok (.string ⟨#[UInt8.ofNat (48 + q % 10)]⟩) (w.alloc (.cells #[.int .u8 (48 + (q : Int) % 10)] t)) := by
  have h := dgq_str w t (UInt8.ofNat (48 + q % 10))
  rw [← dgq_u8, show ((48 + q % 10 : Nat) : Int) = 48 + (q : Int) % 10 by omega] at h
  exact h
def dgq (m : Nat) : ByteArray := ⟨(Lib.decDigits m).toArray⟩
theorem dgq_itoa (m : Nat) : itoaB (m : Int) = dgq m := by unfold itoaB dgq; rw [Lib.itoa_nonneg]
theorem dgq_step (q : Nat) (h : 10 ≤ q) : dgq (q / 10) ++ ⟨#[UInt8.ofNat (48 + q % 10)]⟩ = dgq q := by
  apply Text.toList_inj
  rw [ByteArray.toList_eq, ByteArray.toList_eq]
  simp only [ByteArray.data_append, Array.toList_append]
  show Lib.decDigits (q / 10) ++ [UInt8.ofNat (48 + q % 10)] = Lib.decDigits q
  conv => rhs; rw [Lib.decDigits, dif_neg (by omega)]
theorem dgq_last (q : Nat) (h : q < 10) : dgq q = ⟨#[UInt8.ofNat (48 + q % 10)]⟩ := by
  unfold dgq
  rw [Lib.decDigits_one (by omega), Nat.mod_eq_of_lt h]
/-- what is still ahead of the digits that are written -/
def dgR (q : Nat) (s : ByteArray) (m : Nat) : Prop := (if 10 ≤ q then dgq (q / 10) ++ s else s) = dgq m
theorem dgR_start (m : Nat) : dgR m ⟨#[UInt8.ofNat (48 + m % 10)]⟩ m := by
  unfold dgR
  split
  · rename_i h; exact dgq_step m h
  · rename_i h; exact (dgq_last m (by omega)).symm
theorem dgR_next {q m : Nat} {s : ByteArray} (h : 10 ≤ q) (hr : dgR q s m) : dgR (q / 10) (⟨#[UInt8.ofNat (48 + q / 10 % 10)]⟩ ++ s) m := by
  unfold dgR at hr ⊢
  rw [if_pos h] at hr
  split
  · rename_i h2
    rw [← ByteArray.append_assoc, dgq_step (q / 10) h2]
    exact hr
  · rename_i h2
    rw [← dgq_last (q / 10) (by omega)]
    exact hr
set_option maxRecDepth 100000 in
set_option maxHeartbeats 4000000 in
theorem rpdigits_any (m : Nat) (w : World) (hm : m ≤ 1000) :
    Calls Tryz.prog 46 #[.int .i64 (m : Int)] w fun e w' => e = .returned (.string (dgq m)) ∧ Below w.heap.size w w' := by
  have HB : Hid (∀ o, Below w.heap.size w (w.alloc o)) := fun o => up0 w o
  have hcv0 := fun t => dgq_str10 w t m
  have HS : Hid (dgR m ⟨#[UInt8.ofNat (48 + m % 10)]⟩ m) := dgR_start m
  generalize UInt8.ofNat (48 + m % 10) = b0 at *
  go_enter Tryz.func46, Tryz.ntmps46
  go_wp2
  go_loopw [0, 3] (fun n s wr => ∃ (q : Nat) (suf : ByteArray), q ≤ m ∧ suf.size ≤ 2000 - q ∧ n = .int .i64 (q : Int) ∧ s = .string suf ∧ dgR q suf m ∧ Below w.heap.size w wr) (fun n _ _ => (intOf n).toNat)
  case atStart => exact ⟨m, ⟨#[b0]⟩, Nat.le_refl _, (by show 1 ≤ 2000 - m; omega), rfl, rfl, HS.out, HB.out _⟩
  case round =>
    obtain ⟨q, suf, hq, hss, rfl, rfl, he, hbl⟩ := hrel
    have HW : Hid (dgR q suf m ∧ Below w.heap.size w wr) := ⟨he, hbl⟩
    clear he hbl HS hcv0
    by_cases h9 : 10 ≤ q
    · have HN : Hid (dgR (q / 10) (⟨#[UInt8.ofNat (48 + q / 10 % 10)]⟩ ++ suf) m) := dgR_next h9 HW.out.1
      have hcv := fun t => dgq_str10 wr t (q / 10)
      rw [show ((q / 10 : Nat) : Int) = (q : Int) / 10 by omega] at hcv
      generalize UInt8.ofNat (48 + q / 10 % 10) = b at HN hcv
      go_wp2
      go_roundw
      case rel => exact ⟨q / 10, _, by omega, (by rw [ByteArray.size_append]; show 1 + _ ≤ _; omega), by go_num, rfl, HN.out, up HW.out.2 _⟩
      case measure => simp [intOf]; omega
    · have HN : Hid (suf = dgq m) := by
        have e := HW.out.1
        unfold dgR at e
        rw [if_neg h9] at e
        exact e
      go_wp2
      go_ret
      exact ⟨congrArg (fun z => Ending.returned (.string z)) HN.out, HW.out.2⟩
/-- texts one behind the other -/
theorem joinP_snoc (xs : List ByteArray) (x : ByteArray) : joinP (xs ++ [x]) = if xs = [] then x else joinP xs ++ ⟨#[44, 32]⟩ ++ x := by
  cases xs with
  | nil =>
    rw [if_pos rfl]
    unfold joinP
    rw [List.nil_append, List.map_cons, List.map_nil, Lib.join_one]
  | cons y r =>
    rw [if_neg (by simp)]
    apply Text.toList_inj
    rw [ByteArray.toList_eq, ByteArray.toList_eq]
    simp only [ByteArray.data_append, Array.toList_append]
    unfold joinP
    rw [List.cons_append, List.map_cons, List.map_cons, Lib.join_cons, Lib.join_cons, List.map_append]
    unfold Lib.joinTail
    rw [List.map_append, List.flatten_append]
    simp
end Go.Proofs.YtcnnpohnfoaceaaGreatDoor

/-
  The reference of plan: Print.
-/
namespace Go.Proofs.YtcnnpohnfoaceaaGreatDoor
open Go Go.RowKit
open Wb

theorem stepErr_ah {p : Pln} {i : Nat} {s : Stp} (h : stepErr p i s = 0) : p.ahead i = s.und := by
  unfold stepErr at h
  split at h
  · cases h
  split at h
  · cases h
  split at h
  · cases h
  · rename_i h1
    cases ha : p.ahead i <;> cases hu : s.und <;> simp [ha, hu] at h1 ⊢
/-- a step's text behind what is written -/
def asm1 (t : ByteArray) (s : Stp) (I : ByteArray) : ByteArray := if 1 < s.t then t ++ s.d ++ ⟨#[42]⟩ ++ I else t ++ s.d
def asm2 (a : ByteArray) (s : Stp) (un : Bool) : ByteArray := if un = true then a ++ ⟨#[126]⟩ ++ s.u else a
def asm (t : ByteArray) (s : Stp) (un ip : Bool) (I : ByteArray) : ByteArray := if ip = true then asm2 (asm1 t s I) s un ++ ⟨#[33]⟩ else asm2 (asm1 t s I) s un
theorem asm_eq (p : Pln) (i : Nat) (s : Stp) (t : ByteArray) (h : p.ahead i = s.und) : asm t s s.und (p.isPiv i) (itoaB s.t) = t ++ stxt p i s := by
  unfold asm asm2 asm1 stxt stx2 stx1
  rw [h]
  cases p.isPiv i <;> cases s.und <;> by_cases h1 : 1 < s.t <;> simp [h1, ByteArray.append_assoc]
set_option maxRecDepth 100000 in
set_option maxHeartbeats 16000000 in
theorem rpprint_any (p : Pln) (v : Value) (w : World) (h : StsAt w v p.ss) (hT : Text.TabP 1 .i64 Text.Tx.lets w) (hF : PFt p) :
    Calls Tryz.prog 24 #[plv p v] w fun e w' => e = .returned (.tuple #[.string (printA p).1, .int .i64 (printA p).2]) ∧ Below w.heap.size w w' := by
  have HCK : Hid (∀ w', Below w.heap.size w w' → Calls Tryz.prog 28 #[plv p v] w' fun e w'' => e = .returned (.int .i64 (fErr p).1) ∧ Below w'.heap.size w' w'') := fun w' hb => rpcheck_any p v w' (h.kept hb) (hT.kept hb) hF
  obtain ⟨R, hR⟩ : ∃ R, printA p = R := ⟨_, rfl⟩
  have HR : Hid ((if (fErr p).1 = 0 then (printP p, 0) else (⟨#[]⟩, (fErr p).1)) = R) := hR
  rw [hR]
  clear hR
  have hpl : plv p v = .agg (plvl p v).toArray := rfl
  have HLI : Hid ((Tryz.prog.info? 25).map (·.size) = some (plvl p v).length) := infoPlan
  have HX : Hid (LB (w.alloc (.cells (plvl p v).toArray 25)) w.heap.size 25 (plvl p v) ∧ Below w.heap.size w (w.alloc (.cells (plvl p v).toArray 25))) := ⟨lb_new w _ _, up0 _ _⟩
  by_cases h0 : (fErr p).1 = 0
  · have HG := fErr_good h0
    have HSE : Hid (∀ (k : Nat) (s : Stp), p.ss[k]? = some s → p.ahead k = s.und ∧ s.d.size ≤ 192 ∧ s.u.size ≤ 192 ∧ 0 ≤ s.t ∧ s.t ≤ 1000) := fun k s hs => by
      have e := HG.2.2.2.2.2 k s hs
      have q := stepErr_small e
      exact ⟨stepErr_ah e, q.1, q.2.1, q.2.2.1, q.2.2.2.1⟩
    have HSZ : Hid (∀ x ∈ txF p 0 p.ss, x.size ≤ 500) := fun x hx => by
      obtain ⟨k, hk⟩ := List.mem_iff_getElem?.1 hx
      rw [txF_get] at hk
      cases hs : p.ss[k]? with
      | none => rw [hs] at hk; cases hk
      | some s =>
        rw [hs] at hk
        injection hk with hk
        subst hk
        have e := HSE.out k s hs
        have := stxt_size p (0 + k) s (by omega) (by omega)
        omega
    have HR2 : Hid (R = (p.nm ++ ⟨#[58, 32]⟩ ++ joinP (txF p 0 p.ss), 0)) := by
      show R = _
      rw [← HR.out, if_pos h0]
      rfl
    have HTL : Hid ((txF p 0 p.ss).length = p.ss.length) := txF_len p p.ss 0
    have HTG : Hid (∀ k s, p.ss[k]? = some s → (txF p 0 p.ss)[k]? = some (stxt p k s)) := fun k s hs => by rw [txF_get, hs, Nat.zero_add]; rfl
    have HDG : Hid (∀ (t : Int) w', 0 ≤ t → t ≤ 1000 → Calls Tryz.prog 46 #[.int .i64 t] w' fun e w'' => e = .returned (.string (itoaB t)) ∧ Below w'.heap.size w' w'') := fun t w' h1 h2 => by
      obtain ⟨m, rfl⟩ : ∃ m : Nat, t = (m : Int) := ⟨t.toNat, by omega⟩
      rw [dgq_itoa]
      exact rpdigits_any m w' (by omega)
    have HST : Hid (∀ w', Below w.heap.size w w' → StsAt w' v p.ss) := fun w' hb => h.kept hb
    obtain ⟨-, hnm, hl1, hl2, -⟩ := HG
    have HTS : Hid (∀ k, (p.nm ++ ⟨#[58, 32]⟩ ++ joinP ((txF p 0 p.ss).take k)).size ≤ 30000) := fun k => by
      have := joinP_size ((txF p 0 p.ss).take k) (by rw [List.length_take, HTL.out]; omega) (fun x hx => HSZ.out x (List.mem_of_mem_take hx))
      rw [ByteArray.size_append, ByteArray.size_append]
      show p.nm.size + 2 + (List.toArray _).size ≤ 30000
      rw [List.size_toArray]
      omega
    obtain ⟨ao, cap, rfl, hc1, hc2, -⟩ := h
    unfold maxLen at hc2
    rw [h0] at HCK
    have HDC : Hid (∀ W, LB W w.heap.size 25 (plvl p (.slice ao p.ss.length cap)) → W.cell? ⟨w.heap.size, 0, none⟩ = some (.string p.nm) ∧ W.cell? ⟨w.heap.size, 1, none⟩ = some (.int .i64 p.piv) ∧ W.cell? ⟨w.heap.size, 2, none⟩ = some (.slice ao p.ss.length cap)) := fun W l => ⟨l.cell 0 _ rfl, l.cell 1 _ rfl, l.cell 2 _ rfl⟩
    rw [hpl] at HCK ⊢
    clear HR h0 hpl hT hF
    generalize plvl p (.slice ao p.ss.length cap) = D at *
    generalize txF p 0 p.ss = T at *
    go_enter Tryz.func24, Tryz.ntmps24
    go_wp2_with (first | (refine wpList_load_mid rfl 25 _ rfl w.heap.size 0 rfl D _ HX.out.1.range Tryz.underlying25 rfl HLI.out ?_) | fail)
    refine (HCK.out _ HX.out.2).mono ?_
    rintro e w1 ⟨rfl, b1⟩
    have H1 : Hid (LB w1 w.heap.size 25 D ∧ Below w.heap.size w w1) := ⟨HX.out.1.kept b1, andThen HX.out.2 b1⟩
    clear b1 HX HCK
    obtain ⟨c0, c1, c2⟩ := HDC.out _ H1.out.1
    go_wp2_with fail
    go_loopw [5, 6] (fun vt i wr => ∃ k : Nat, ∃ t : ByteArray, k ≤ p.ss.length ∧ i = .int .i64 (k : Int) ∧ vt = .string t ∧ t = p.nm ++ ⟨#[58, 32]⟩ ++ joinP (T.take k) ∧ LB wr w.heap.size 25 D ∧ Below w.heap.size w wr) (fun _ i _ => p.ss.length - (intOf i).toNat)
    case atStart =>
      refine ⟨0, _, Nat.zero_le _, rfl, rfl, ?_, H1.out.1, H1.out.2⟩
      rw [List.take_zero]
      show _ = _ ++ ByteArray.empty
      rw [ByteArray.append_empty]
    case round =>
      obtain ⟨k, t, hk, rfl, rfl, ht, hl, hbl⟩ := hrel
      clear H1 c0 c1 c2
      have HW : Hid (LB wr w.heap.size 25 D ∧ Below w.heap.size w wr) := ⟨hl, hbl⟩
      have hts : t.size ≤ 30000 := by rw [ht]; exact HTS.out k
      have HT : Hid (t = p.nm ++ ⟨#[58, 32]⟩ ++ joinP (T.take k)) := ht
      clear hl hbl ht
      obtain ⟨-, c1, c2⟩ := HDC.out _ HW.out.1
      by_cases hlt : k < p.ss.length
      · obtain ⟨s, hs⟩ : ∃ s, p.ss[k]? = some s := ⟨p.ss[k], List.getElem?_eq_getElem hlt⟩
        obtain ⟨ao', cap', e, -, -, hc⟩ := HST.out wr HW.out.2
        simp only [Value.slice.injEq, true_and] at e
        obtain ⟨rfl, rfl⟩ := e
        obtain ⟨b, off, rfl, hr⟩ := hc k s hs
        obtain ⟨hah, hd, hu, ht0, ht1⟩ := HSE.out k s hs
        have x0 := hr 0 _ rfl
        have x1 := hr 1 _ rfl
        have x2 := hr 2 _ rfl
        rw [Nat.add_zero] at x0
        have hkk : (0 : Int) ≤ (k : Int) ∧ (k : Int) < (p.ss.length : Int) := by omega
        obtain ⟨hk1, hk2⟩ := hkk
        have HI : Hid ((itoaB s.t).size ≤ 21) := itoaB_size s.t (by omega) (by omega)
        have hI := HI.out
        -- what must come out
        have HN : Hid (asm (if k = 0 then t else t ++ ⟨#[44, 32]⟩) s s.und (p.isPiv k) (itoaB s.t) = p.nm ++ ⟨#[58, 32]⟩ ++ joinP (T.take (k + 1))) := by
          show _ = _
          rw [asm_eq p k s _ hah, List.take_add_one, HTG.out k s hs, Option.toList_some, joinP_snoc, HT.out]
          by_cases hk0 : k = 0
          · subst hk0
            rw [if_pos rfl, List.take_zero, if_pos rfl]
            show _ ++ ByteArray.empty ++ _ = _
            rw [ByteArray.append_empty]
          · have hne : ¬ T.take k = [] := fun e => by
              have e2 := congrArg List.length e
              rw [List.length_take, HTL.out, List.length_nil] at e2
              omega
            rw [if_neg hk0, if_neg hne]
            simp [ByteArray.append_assoc]
        have hip : (((k : Int) + 1) == p.piv) = p.isPiv k := rfl
        have hue : s.u.toList.isEmpty = !s.und := by unfold Stp.und; simp
        have HU0 : Hid (∀ W o, LB W w.heap.size 25 D ∧ Below w.heap.size w W → LB (W.alloc o) w.heap.size 25 D ∧ Below w.heap.size w (W.alloc o)) := fun W o hh => ⟨hh.1.kept (up0 _ _), up hh.2 _⟩
        clear hc hr hah hs HTS HTG HSE HTL HSZ
        have HDX : Hid (∀ w', Calls Tryz.prog 46 #[.int .i64 s.t] w' fun e w'' => e = .returned (.string (itoaB s.t)) ∧ Below w'.heap.size w' w'') := fun w' => HDG.out s.t w' ht0 ht1
        have HLB : Hid (∀ o, o = .cells #[.string s.d, .string s.u, .int .i64 s.t] 60 → LB (wr.alloc o) wr.heap.size 60 (stl s)) := fun o ho => by subst ho; exact lb_new wr (stl s) 60
        generalize itoaB s.t = I at *
        generalize p.isPiv k = ip at *
        generalize s.und = un at *
        by_cases hk0 : k = 0
        · have gk : decide (k > 0) = false := decide_eq_false (by omega)
          rw [if_pos hk0] at HN
          clear hk0
          by_cases h9 : 1 < s.t
          · have g9 : decide (s.t > 1) = true := decide_eq_true h9
            have HN2 : Hid ((if ip = true then asm2 (t ++ s.d ++ ⟨#[42]⟩ ++ I) s un ++ ⟨#[33]⟩ else asm2 (t ++ s.d ++ ⟨#[42]⟩ ++ I) s un) = p.nm ++ ⟨#[58, 32]⟩ ++ joinP (T.take (k + 1))) := by
              have e := HN.out
              unfold asm asm1 at e
              rw [if_pos h9] at e
              exact e
            clear HN
            go_wp2_with fail
            refine (HDX.out _).mono ?_
            rintro e w3 ⟨rfl, b3⟩
            have H3 : Hid (LB w3 w.heap.size 25 D ∧ Below w.heap.size w w3 ∧ LB w3 wr.heap.size 60 (stl s)) := ⟨(HU0.out _ _ HW.out).1.kept b3, andThen (HU0.out _ _ HW.out).2 b3, (HLB.out _ rfl).kept b3⟩
            clear b3 HDX HLB x0 x1 x2 c1 c2
            obtain ⟨-, c1, -⟩ := HDC.out _ H3.out.1
            have y1 := H3.out.2.2.cell 1 _ rfl
            cases un
            case false =>
              have hue2 : s.u.toList.isEmpty = true := hue
              have HN3 : Hid ((if ip = true then t ++ s.d ++ ⟨#[42]⟩ ++ I ++ ⟨#[33]⟩ else t ++ s.d ++ ⟨#[42]⟩ ++ I) = p.nm ++ ⟨#[58, 32]⟩ ++ joinP (T.take (k + 1))) := HN2.out
              clear HN2 hue
              cases ip
              case false =>
                go_wp2_with fail
                go_roundw
                case rel => exact ⟨k + 1, _, by omega, by simp, rfl, HN3.out, H3.out.1, H3.out.2.1⟩
                case measure => simp [intOf]; omega
              case true =>
                go_wp2_with fail
                go_roundw
                case rel => exact ⟨k + 1, _, by omega, by simp, rfl, HN3.out, H3.out.1, H3.out.2.1⟩
                case measure => simp [intOf]; omega
            case true =>
              have hue2 : s.u.toList.isEmpty = false := hue
              have HN3 : Hid ((if ip = true then t ++ s.d ++ ⟨#[42]⟩ ++ I ++ ⟨#[126]⟩ ++ s.u ++ ⟨#[33]⟩ else t ++ s.d ++ ⟨#[42]⟩ ++ I ++ ⟨#[126]⟩ ++ s.u) = p.nm ++ ⟨#[58, 32]⟩ ++ joinP (T.take (k + 1))) := HN2.out
              clear HN2 hue
              cases ip
              case false =>
                go_wp2_with fail
                go_roundw
                case rel => exact ⟨k + 1, _, by omega, by simp, rfl, HN3.out, H3.out.1, H3.out.2.1⟩
                case measure => simp [intOf]; omega
              case true =>
                go_wp2_with fail
                go_roundw
                case rel => exact ⟨k + 1, _, by omega, by simp, rfl, HN3.out, H3.out.1, H3.out.2.1⟩
                case measure => simp [intOf]; omega
          · have g9 : decide (s.t > 1) = false := decide_eq_false h9
            have HN2 : Hid ((if ip = true then asm2 (t ++ s.d) s un ++ ⟨#[33]⟩ else asm2 (t ++ s.d) s un) = p.nm ++ ⟨#[58, 32]⟩ ++ joinP (T.take (k + 1))) := by
              have e := HN.out
              unfold asm asm1 at e
              rw [if_neg h9] at e
              exact e
            clear HN
            have q1 : ∀ o, (wr.alloc o).cell? ⟨w.heap.size, 1, none⟩ = some (.int .i64 p.piv) := fun o => ((HDC.out _ (HU0.out _ o HW.out).1).2.1)
            cases un
            case false =>
              have hue2 : s.u.toList.isEmpty = true := hue
              have HN3 : Hid ((if ip = true then t ++ s.d ++ ⟨#[33]⟩ else t ++ s.d) = p.nm ++ ⟨#[58, 32]⟩ ++ joinP (T.take (k + 1))) := HN2.out
              clear HN2 hue
              cases ip
              case false =>
                go_wp2_with fail
                go_roundw
                case rel => exact ⟨k + 1, _, by omega, by simp, rfl, HN3.out, HU0.out _ _ HW.out⟩
                case measure => simp [intOf]; omega
              case true =>
                go_wp2_with fail
                go_roundw
                case rel => exact ⟨k + 1, _, by omega, by simp, rfl, HN3.out, HU0.out _ _ HW.out⟩
                case measure => simp [intOf]; omega
            case true =>
              have hue2 : s.u.toList.isEmpty = false := hue
              have HN3 : Hid ((if ip = true then t ++ s.d ++ ⟨#[126]⟩ ++ s.u ++ ⟨#[33]⟩ else t ++ s.d ++ ⟨#[126]⟩ ++ s.u) = p.nm ++ ⟨#[58, 32]⟩ ++ joinP (T.take (k + 1))) := HN2.out
              clear HN2 hue
              cases ip
              case false =>
                go_wp2_with fail
                go_roundw
                case rel => exact ⟨k + 1, _, by omega, by simp, rfl, HN3.out, HU0.out _ _ HW.out⟩
                case measure => simp [intOf]; omega
              case true =>
                go_wp2_with fail
                go_roundw
                case rel => exact ⟨k + 1, _, by omega, by simp, rfl, HN3.out, HU0.out _ _ HW.out⟩
                case measure => simp [intOf]; omega
        · have gk : decide (k > 0) = true := decide_eq_true (by omega)
          rw [if_neg hk0] at HN
          clear hk0
          by_cases h9 : 1 < s.t
          · have g9 : decide (s.t > 1) = true := decide_eq_true h9
            have HN2 : Hid ((if ip = true then asm2 (t ++ ⟨#[44, 32]⟩ ++ s.d ++ ⟨#[42]⟩ ++ I) s un ++ ⟨#[33]⟩ else asm2 (t ++ ⟨#[44, 32]⟩ ++ s.d ++ ⟨#[42]⟩ ++ I) s un) = p.nm ++ ⟨#[58, 32]⟩ ++ joinP (T.take (k + 1))) := by
              have e := HN.out
              unfold asm asm1 at e
              rw [if_pos h9] at e
              exact e
            clear HN
            go_wp2_with fail
            refine (HDX.out _).mono ?_
            rintro e w3 ⟨rfl, b3⟩
            have H3 : Hid (LB w3 w.heap.size 25 D ∧ Below w.heap.size w w3 ∧ LB w3 wr.heap.size 60 (stl s)) := ⟨(HU0.out _ _ HW.out).1.kept b3, andThen (HU0.out _ _ HW.out).2 b3, (HLB.out _ rfl).kept b3⟩
            clear b3 HDX HLB x0 x1 x2 c1 c2
            obtain ⟨-, c1, -⟩ := HDC.out _ H3.out.1
            have y1 := H3.out.2.2.cell 1 _ rfl
            cases un
            case false =>
              have hue2 : s.u.toList.isEmpty = true := hue
              have HN3 : Hid ((if ip = true then t ++ ⟨#[44, 32]⟩ ++ s.d ++ ⟨#[42]⟩ ++ I ++ ⟨#[33]⟩ else t ++ ⟨#[44, 32]⟩ ++ s.d ++ ⟨#[42]⟩ ++ I) = p.nm ++ ⟨#[58, 32]⟩ ++ joinP (T.take (k + 1))) := HN2.out
              clear HN2 hue
              cases ip
              case false =>
                go_wp2_with fail
                go_roundw
                case rel => exact ⟨k + 1, _, by omega, by simp, rfl, HN3.out, H3.out.1, H3.out.2.1⟩
                case measure => simp [intOf]; omega
              case true =>
                go_wp2_with fail
                go_roundw
                case rel => exact ⟨k + 1, _, by omega, by simp, rfl, HN3.out, H3.out.1, H3.out.2.1⟩
                case measure => simp [intOf]; omega
            case true =>
              have hue2 : s.u.toList.isEmpty = false := hue
              have HN3 : Hid ((if ip = true then t ++ ⟨#[44, 32]⟩ ++ s.d ++ ⟨#[42]⟩ ++ I ++ ⟨#[126]⟩ ++ s.u ++ ⟨#[33]⟩ else t ++ ⟨#[44, 32]⟩ ++ s.d ++ ⟨#[42]⟩ ++ I ++ ⟨#[126]⟩ ++ s.u) = p.nm ++ ⟨#[58, 32]⟩ ++ joinP (T.take (k + 1))) := HN2.out
              clear HN2 hue
              cases ip
              case false =>
                go_wp2_with fail
                go_roundw
                case rel => exact ⟨k + 1, _, by omega, by simp, rfl, HN3.out, H3.out.1, H3.out.2.1⟩
                case measure => simp [intOf]; omega
              case true =>
                go_wp2_with fail
                go_roundw
                case rel => exact ⟨k + 1, _, by omega, by simp, rfl, HN3.out, H3.out.1, H3.out.2.1⟩
                case measure => simp [intOf]; omega
          · have g9 : decide (s.t > 1) = false := decide_eq_false h9
            have HN2 : Hid ((if ip = true then asm2 (t ++ ⟨#[44, 32]⟩ ++ s.d) s un ++ ⟨#[33]⟩ else asm2 (t ++ ⟨#[44, 32]⟩ ++ s.d) s un) = p.nm ++ ⟨#[58, 32]⟩ ++ joinP (T.take (k + 1))) := by
              have e := HN.out
              unfold asm asm1 at e
              rw [if_neg h9] at e
              exact e
            clear HN
            have q1 : ∀ o, (wr.alloc o).cell? ⟨w.heap.size, 1, none⟩ = some (.int .i64 p.piv) := fun o => ((HDC.out _ (HU0.out _ o HW.out).1).2.1)
            cases un
            case false =>
              have hue2 : s.u.toList.isEmpty = true := hue
              have HN3 : Hid ((if ip = true then t ++ ⟨#[44, 32]⟩ ++ s.d ++ ⟨#[33]⟩ else t ++ ⟨#[44, 32]⟩ ++ s.d) = p.nm ++ ⟨#[58, 32]⟩ ++ joinP (T.take (k + 1))) := HN2.out
              clear HN2 hue
              cases ip
              case false =>
                go_wp2_with fail
                go_roundw
                case rel => exact ⟨k + 1, _, by omega, by simp, rfl, HN3.out, HU0.out _ _ HW.out⟩
                case measure => simp [intOf]; omega
              case true =>
                go_wp2_with fail
                go_roundw
                case rel => exact ⟨k + 1, _, by omega, by simp, rfl, HN3.out, HU0.out _ _ HW.out⟩
                case measure => simp [intOf]; omega
            case true =>
              have hue2 : s.u.toList.isEmpty = false := hue
              have HN3 : Hid ((if ip = true then t ++ ⟨#[44, 32]⟩ ++ s.d ++ ⟨#[126]⟩ ++ s.u ++ ⟨#[33]⟩ else t ++ ⟨#[44, 32]⟩ ++ s.d ++ ⟨#[126]⟩ ++ s.u) = p.nm ++ ⟨#[58, 32]⟩ ++ joinP (T.take (k + 1))) := HN2.out
              clear HN2 hue
              cases ip
              case false =>
                go_wp2_with fail
                go_roundw
                case rel => exact ⟨k + 1, _, by omega, by simp, rfl, HN3.out, HU0.out _ _ HW.out⟩
                case measure => simp [intOf]; omega
              case true =>
                go_wp2_with fail
                go_roundw
                case rel => exact ⟨k + 1, _, by omega, by simp, rfl, HN3.out, HU0.out _ _ HW.out⟩
                case measure => simp [intOf]; omega
      · obtain rfl : k = p.ss.length := by omega
        have HF : Hid (R = (t, 0)) := by
          show R = _
          rw [HR2.out, HT.out, ← HTL.out, List.take_length]
        go_wp2_with fail
        go_ret2
        exact ⟨by rw [HF.out]; rfl, HW.out.2⟩
  · have HR2 : Hid (R = (⟨#[]⟩, (fErr p).1)) := by show R = _; rw [← HR.out, if_neg h0]
    have hne : ((fErr p).1 != 0) = true := by simp [h0]
    rw [hpl] at HCK ⊢
    clear HR h0 hpl h hT hF
    generalize plvl p v = D at *
    generalize (fErr p).1 = E at *
    go_enter Tryz.func24, Tryz.ntmps24
    go_wp2_with (first | (refine wpList_load_mid rfl 25 _ rfl w.heap.size 0 rfl D _ HX.out.1.range Tryz.underlying25 rfl HLI.out ?_) | fail)
    refine (HCK.out _ HX.out.2).mono ?_
    rintro e w1 ⟨rfl, b1⟩
    have H1 : Hid (Below w.heap.size w w1) := andThen HX.out.2 b1
    clear b1 HX HCK
    go_wp2_with fail
    go_ret2
    exact ⟨by rw [HR2.out]; rfl, H1.out⟩
end Go.Proofs.YtcnnpohnfoaceaaGreatDoor
