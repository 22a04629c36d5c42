/-
  DiskStays and its kin: an operation; changing, do.
-/
import Derived.Test.YtjepeeopjjnglaaDki
namespace Go.Proofs.Ytjepeeopjjnglaa
open Go Go.RowKit Go.ChangeShapes
open Wb

/-- an operation, as it lies in memory -/
structure Rop where
  k : Int
  two : Bool
  a : ByteArray
  b : ByteArray
  n : Int
  da : Option Addr
  dc : Nat
  data : List Nat
  ca : Option Addr
  cc : Nat
  cs : List (Int × Int)
  fa : Option Addr
  fn : Nat
  fc : Nat
def opc (o : Rop) : List Value := [.int .i64 o.k, .bool o.two, .string o.a, .string o.b, .int .i64 o.n, .slice o.da o.data.length o.dc, .slice o.ca o.cs.length o.cc, .slice o.fa o.fn o.fc]
def opv (o : Rop) : Value := .agg #[.int .i64 o.k, .bool o.two, .string o.a, .string o.b, .int .i64 o.n, .slice o.da o.data.length o.dc, .slice o.ca o.cs.length o.cc, .slice o.fa o.fn o.fc]
namespace Dk
/-- the error of an operation that changes -/
def doE (S : DS) (o : Rop) : Int := if o.k = 1 then crtE S o.a.data.toList else if o.k = 2 then appE S o.a.data.toList o.data else if o.k = 3 then synE S o.a.data.toList else if o.k = 4 then truE S o.a.data.toList o.n else if o.k = 5 then renE S o.a.data.toList o.b.data.toList else if o.k = 6 then synE S o.a.data.toList else sdE S
/-- the disk behind it -/
def doS (S : DS) (o : Rop) (f : Nat) : DS := if o.k = 1 then crt S o.a.data.toList f else if o.k = 2 then app S o.a.data.toList o.data else if o.k = 3 then syn S o.a.data.toList else if o.k = 4 then tru S o.a.data.toList o.n else if o.k = 5 then ren S o.a.data.toList o.b.data.toList else if o.k = 6 then rem S o.a.data.toList else sd S
theorem WF.do {S : DS} {N : Nat} (h : WF S N) (o : Rop) (f : Nat) (hf : f ∉ S.ids) : WF (doS S o f) (N + 1) := by
  unfold doS
  split
  · exact h.crt _ f hf
  split
  · exact (h.app _ _).mono (Nat.le_succ _)
  split
  · exact (h.syn _).mono (Nat.le_succ _)
  split
  · exact (h.tru _ _).mono (Nat.le_succ _)
  split
  · exact h.ren _ _
  split
  · exact h.rem _
  · exact h.sd.mono (Nat.le_succ _)
def chg (o : Rop) : Bool := decide (1 ≤ o.k) && decide (o.k ≤ 7)
end Dk
set_option maxRecDepth 100000 in
set_option maxHeartbeats 4000000 in
theorem dlchanging_any (o : Rop) (w : World) : Calls Try.prog 11 #[opv o] w fun e w' => e = .returned (.bool (Dk.chg o)) ∧ Below w.heap.size w w' := by
  have c0 := (lb_new w (opc o) 33).cell 0 _ rfl
  have b0 := up0 w (.cells (opc o).toArray 33)
  unfold opc at c0 b0
  unfold opv Dk.chg
  go_enter Try.func11, Try.ntmps11
  go_upto_region 1 with fail
  generalize w.alloc _ = W0 at *
  by_cases h1 : 1 ≤ o.k
  · by_cases h2 : o.k ≤ 7
    · go_wp2_with fail
      go_returns
      exact ⟨by simp [h1, h2], b0⟩
    · go_wp2_with fail
      go_returns
      exact ⟨by simp [h2], b0⟩
  · go_wp2_with fail
    go_returns
    exact ⟨by rw [decide_eq_false (show ¬ 1 ≤ o.k by omega)]; rfl, b0⟩
set_option maxRecDepth 100000 in
set_option maxHeartbeats 8000000 in
theorem dldo_any0 (B g : Nat) (S : Dk.DS) (M : Mm) (N : Nat) (o : Rop) (w : World) (h : DM B w g S M) (hB : B ≤ w.heap.size) (hW : Dk.WF S N) (hN : N ≤ 1000000000) (hsa : o.a.size ≤ maxLen) (hsb : o.b.size ≤ maxLen) (hdv : Bs w (.slice o.da o.data.length o.dc) o.data) (hda : o.data ≠ [] → ∀ q x, o.da = some ⟨q, x, none⟩ → ¬ Ft g S M q) :
    Calls Try.prog 12 #[.pointer (some ⟨g, 0, none⟩), opv o] w fun e w' => ∃ f, w.heap.size ≤ f ∧ e = .returned (.int .i64 (Dk.doE S o)) ∧ DPost B g S M w (Dk.doS S o f) w' := by
  have b0 := up0 w (.cells (opc o).toArray 33)
  have c0 := (lb_new w (opc o) 33).cell 0 _ rfl
  have c2 := (lb_new w (opc o) 33).cell 2 _ rfl
  have c3 := (lb_new w (opc o) 33).cell 3 _ rfl
  have c4 := (lb_new w (opc o) 33).cell 4 _ rfl
  have c5 := (lb_new w (opc o) 33).cell 5 _ rfl
  have d0 := h.kept b0
  have hs0 := b0.size
  have hB0 := Nat.le_trans hB hs0
  have HB0 : Hid (Below w.heap.size w (w.alloc (.cells (opc o).toArray 33))) := b0
  have H0 : Hid (DM B w g S M) := h
  unfold opc at b0 c0 c2 c3 c4 c5 d0 hs0 hB0 HB0
  unfold opv
  clear h
  go_enter Try.func12, Try.ntmps12
  go_upto_region 1 with fail
  generalize w.alloc _ = W0 at *
  by_cases hk1 : o.k = 1
  · have HC : Hid (Calls Try.prog 30 #[.pointer (some ⟨g, 0, none⟩), .string o.a] W0 fun e w' => ∃ f, w.heap.size ≤ f ∧ e = .returned (.int .i64 (Dk.doE S o)) ∧ DPost B g S M W0 (Dk.doS S o f) w') := by
      unfold Dk.doE Dk.doS
      simp only [if_pos hk1]
      exact (dkcreate_any B g S M o.a W0 d0 hB0 hsa hW.ar (by have := hW.n1; omega) (by have := hW.n3; omega)).mono fun e w' ⟨f, h1, h2, h3⟩ => ⟨f, Nat.le_trans hs0 h1, h2, h3⟩
    rw [hk1] at c0
    clear hW d0 hB0 hsa hsb hdv hda hk1
    obtain ⟨E, hE⟩ : ∃ E, E = Dk.doE S o := ⟨_, rfl⟩
    rw [← hE] at HC
    have HE : Hid (E = Dk.doE S o) := hE
    clear hE
    go_wp2_with fail
    refine HC.out.mono ?_
    rintro e W2 ⟨f, hf, rfl, hp⟩
    go_wp2_with fail
    refine (dlnum_any _ _).mono ?_
    rintro e w' ⟨rfl, rfl⟩
    go_wp2_with fail
    go_returns
    exact ⟨f, hf, by rw [← HE.out]; rfl, DPost.trans (IFr.kept HB0.out) (fun q hq => .inl hq) hp⟩
  · by_cases hk2 : o.k = 2
    · have HC : Hid (Calls Try.prog 42 #[.pointer (some ⟨g, 0, none⟩), .string o.a, .slice o.da o.data.length o.dc] W0 fun e w' => ∃ f, w.heap.size ≤ f ∧ e = .returned (.int .i64 (Dk.doE S o)) ∧ DPost B g S M W0 (Dk.doS S o f) w') := by
        unfold Dk.doE Dk.doS
        simp only [if_neg hk1, if_pos hk2]
        exact (dkappend_any B g S M o.a _ o.data W0 d0 hB0 hsa hW.ar hW.ids (hdv.kept b0) (fun hne q ⟨x, y, z, e⟩ hq => by
            simp only [Value.slice.injEq] at e
            exact hda hne q x e.1 hq) ⟨hW.t0, hW.tk, hW.q⟩ (fun f hf => by have := (hW.fl f hf).2; omega)).mono fun e w' ⟨h2, h3⟩ => ⟨w.heap.size, Nat.le_refl _, h2, h3⟩
      have e1 : (o.k == 1) = false := by simpa using hk1
      rw [hk2] at c0
      clear hW d0 hB0 hsa hsb hdv hda hk1 hk2
      obtain ⟨E, hE⟩ : ∃ E, E = Dk.doE S o := ⟨_, rfl⟩
      rw [← hE] at HC
      have HE : Hid (E = Dk.doE S o) := hE
      clear hE
      go_wp2_with fail
      refine HC.out.mono ?_
      rintro e W2 ⟨f, hf, rfl, hp⟩
      go_wp2_with fail
      refine (dlnum_any _ _).mono ?_
      rintro e w' ⟨rfl, rfl⟩
      go_wp2_with fail
      go_returns
      exact ⟨f, hf, by rw [← HE.out]; rfl, DPost.trans (IFr.kept HB0.out) (fun q hq => .inl hq) hp⟩
    · by_cases hk3 : o.k = 3
      · have HC : Hid (Calls Try.prog 43 #[.pointer (some ⟨g, 0, none⟩), .string o.a] W0 fun e w' => ∃ f, w.heap.size ≤ f ∧ e = .returned (.int .i64 (Dk.doE S o)) ∧ DPost B g S M W0 (Dk.doS S o f) w') := by
          unfold Dk.doE Dk.doS
          simp only [if_neg hk1, if_neg hk2, if_pos hk3]
          exact (dksync_any B g S M o.a W0 d0 hB0 hsa hW.ar hW.ids).mono fun e w' ⟨h2, h3⟩ => ⟨w.heap.size, Nat.le_refl _, h2, h3⟩
        have e1 : (o.k == 1) = false := by simpa using hk1
        have e2 : (o.k == 2) = false := by simpa using hk2
        rw [hk3] at c0
        clear hW d0 hB0 hsa hsb hdv hda hk1 hk2 hk3
        obtain ⟨E, hE⟩ : ∃ E, E = Dk.doE S o := ⟨_, rfl⟩
        rw [← hE] at HC
        have HE : Hid (E = Dk.doE S o) := hE
        clear hE
        go_wp2_with fail
        refine HC.out.mono ?_
        rintro e W2 ⟨f, hf, rfl, hp⟩
        go_wp2_with fail
        refine (dlnum_any _ _).mono ?_
        rintro e w' ⟨rfl, rfl⟩
        go_wp2_with fail
        go_returns
        exact ⟨f, hf, by rw [← HE.out]; rfl, DPost.trans (IFr.kept HB0.out) (fun q hq => .inl hq) hp⟩
      · by_cases hk4 : o.k = 4
        · have HC : Hid (Calls Try.prog 44 #[.pointer (some ⟨g, 0, none⟩), .string o.a, .int .i64 o.n] W0 fun e w' => ∃ f, w.heap.size ≤ f ∧ e = .returned (.int .i64 (Dk.doE S o)) ∧ DPost B g S M W0 (Dk.doS S o f) w') := by
            unfold Dk.doE Dk.doS
            simp only [if_neg hk1, if_neg hk2, if_neg hk3, if_pos hk4]
            exact (dktrunc_any B g S M o.a o.n W0 d0 hB0 hsa hW.ar hW.ids d0.fd ⟨hW.t0, by have := hW.tk; have := hW.q; omega⟩ (fun f hf => by have := (hW.fl f hf).2; omega)).mono fun e w' ⟨h2, h3⟩ => ⟨w.heap.size, Nat.le_refl _, h2, h3⟩
          have e1 : (o.k == 1) = false := by simpa using hk1
          have e2 : (o.k == 2) = false := by simpa using hk2
          have e3 : (o.k == 3) = false := by simpa using hk3
          rw [hk4] at c0
          clear hW d0 hB0 hsa hsb hdv hda hk1 hk2 hk3 hk4
          obtain ⟨E, hE⟩ : ∃ E, E = Dk.doE S o := ⟨_, rfl⟩
          rw [← hE] at HC
          have HE : Hid (E = Dk.doE S o) := hE
          clear hE
          go_wp2_with fail
          refine HC.out.mono ?_
          rintro e W2 ⟨f, hf, rfl, hp⟩
          go_wp2_with fail
          refine (dlnum_any _ _).mono ?_
          rintro e w' ⟨rfl, rfl⟩
          go_wp2_with fail
          go_returns
          exact ⟨f, hf, by rw [← HE.out]; rfl, DPost.trans (IFr.kept HB0.out) (fun q hq => .inl hq) hp⟩
        · by_cases hk5 : o.k = 5
          · have HC : Hid (Calls Try.prog 45 #[.pointer (some ⟨g, 0, none⟩), .string o.a, .string o.b] W0 fun e w' => ∃ f, w.heap.size ≤ f ∧ e = .returned (.int .i64 (Dk.doE S o)) ∧ DPost B g S M W0 (Dk.doS S o f) w') := by
              unfold Dk.doE Dk.doS
              simp only [if_neg hk1, if_neg hk2, if_neg hk3, if_neg hk4, if_pos hk5]
              exact (dkrename_any B g S M o.a o.b W0 d0 hB0 hsa hsb hW.ar hW.ids (by have := hW.n1; omega) (by have := hW.n3; omega)).mono fun e w' ⟨h2, h3⟩ => ⟨w.heap.size, Nat.le_refl _, h2, h3⟩
            have e1 : (o.k == 1) = false := by simpa using hk1
            have e2 : (o.k == 2) = false := by simpa using hk2
            have e3 : (o.k == 3) = false := by simpa using hk3
            have e4 : (o.k == 4) = false := by simpa using hk4
            rw [hk5] at c0
            clear hW d0 hB0 hsa hsb hdv hda hk1 hk2 hk3 hk4 hk5
            obtain ⟨E, hE⟩ : ∃ E, E = Dk.doE S o := ⟨_, rfl⟩
            rw [← hE] at HC
            have HE : Hid (E = Dk.doE S o) := hE
            clear hE
            go_wp2_with fail
            refine HC.out.mono ?_
            rintro e W2 ⟨f, hf, rfl, hp⟩
            go_wp2_with fail
            refine (dlnum_any _ _).mono ?_
            rintro e w' ⟨rfl, rfl⟩
            go_wp2_with fail
            go_returns
            exact ⟨f, hf, by rw [← HE.out]; rfl, DPost.trans (IFr.kept HB0.out) (fun q hq => .inl hq) hp⟩
          · by_cases hk6 : o.k = 6
            · have HC : Hid (Calls Try.prog 31 #[.pointer (some ⟨g, 0, none⟩), .string o.a] W0 fun e w' => ∃ f, w.heap.size ≤ f ∧ e = .returned (.int .i64 (Dk.doE S o)) ∧ DPost B g S M W0 (Dk.doS S o f) w') := by
                unfold Dk.doE Dk.doS
                simp only [if_neg hk1, if_neg hk2, if_neg hk3, if_neg hk4, if_neg hk5, if_pos hk6]
                exact (dkremove_any B g S M o.a W0 d0 hB0 hsa hW.ar hW.ids hsa (by have := hW.n1; omega) (by have := hW.n3; omega)).mono fun e w' ⟨h2, h3⟩ => ⟨w.heap.size, Nat.le_refl _, h2, h3⟩
              have e1 : (o.k == 1) = false := by simpa using hk1
              have e2 : (o.k == 2) = false := by simpa using hk2
              have e3 : (o.k == 3) = false := by simpa using hk3
              have e4 : (o.k == 4) = false := by simpa using hk4
              have e5 : (o.k == 5) = false := by simpa using hk5
              rw [hk6] at c0
              clear hW d0 hB0 hsa hsb hdv hda hk1 hk2 hk3 hk4 hk5 hk6
              obtain ⟨E, hE⟩ : ∃ E, E = Dk.doE S o := ⟨_, rfl⟩
              rw [← hE] at HC
              have HE : Hid (E = Dk.doE S o) := hE
              clear hE
              go_wp2_with fail
              refine HC.out.mono ?_
              rintro e W2 ⟨f, hf, rfl, hp⟩
              go_wp2_with fail
              refine (dlnum_any _ _).mono ?_
              rintro e w' ⟨rfl, rfl⟩
              go_wp2_with fail
              go_returns
              exact ⟨f, hf, by rw [← HE.out]; rfl, DPost.trans (IFr.kept HB0.out) (fun q hq => .inl hq) hp⟩
            · have HC : Hid (Calls Try.prog 37 #[.pointer (some ⟨g, 0, none⟩)] W0 fun e w' => ∃ f, w.heap.size ≤ f ∧ e = .returned (.int .i64 (Dk.doE S o)) ∧ DPost B g S M W0 (Dk.doS S o f) w') := by
                unfold Dk.doE Dk.doS
                simp only [if_neg hk1, if_neg hk2, if_neg hk3, if_neg hk4, if_neg hk5, if_neg hk6]
                exact (dksyncdir_any B g S M W0 d0 hB0 hW.ar hW.ids (by have := hW.tot; have := hW.tk; have := hW.q; omega)).mono fun e w' ⟨h2, h3⟩ => ⟨w.heap.size, Nat.le_refl _, h2, h3⟩
              have e1 : (o.k == 1) = false := by simpa using hk1
              have e2 : (o.k == 2) = false := by simpa using hk2
              have e3 : (o.k == 3) = false := by simpa using hk3
              have e4 : (o.k == 4) = false := by simpa using hk4
              have e5 : (o.k == 5) = false := by simpa using hk5
              have e6 : (o.k == 6) = false := by simpa using hk6
              clear hW d0 hB0 hsa hsb hdv hda hk1 hk2 hk3 hk4 hk5 hk6
              obtain ⟨E, hE⟩ : ∃ E, E = Dk.doE S o := ⟨_, rfl⟩
              rw [← hE] at HC
              have HE : Hid (E = Dk.doE S o) := hE
              clear hE
              go_wp2_with fail
              refine HC.out.mono ?_
              rintro e W2 ⟨f, hf, rfl, hp⟩
              go_wp2_with fail
              refine (dlnum_any _ _).mono ?_
              rintro e w' ⟨rfl, rfl⟩
              go_wp2_with fail
              go_returns
              exact ⟨f, hf, by rw [← HE.out]; rfl, DPost.trans (IFr.kept HB0.out) (fun q hq => .inl hq) hp⟩
theorem dldo_any (B g : Nat) (S : Dk.DS) (M : Mm) (N : Nat) (o : Rop) (w : World) (h : DM B w g S M) (hB : B ≤ w.heap.size) (hW : Dk.WF S N) (hN : N ≤ 1000000000) (hsa : o.a.size ≤ maxLen) (hsb : o.b.size ≤ maxLen) (hdv : Bs w (.slice o.da o.data.length o.dc) o.data) (hda : o.data ≠ [] → ∀ q x, o.da = some ⟨q, x, none⟩ → q < B) :
    Calls Try.prog 12 #[.pointer (some ⟨g, 0, none⟩), opv o] w fun e w' => ∃ f, w.heap.size ≤ f ∧ e = .returned (.int .i64 (Dk.doE S o)) ∧ DPost B g S M w (Dk.doS S o f) w' :=
  dldo_any0 B g S M N o w h hB hW hN hsa hsb hdv fun hne q x e hq => by
    have h8 := hda hne q x e
    have h9 := (h.ft hq).1
    omega
end Go.Proofs.Ytjepeeopjjnglaa
