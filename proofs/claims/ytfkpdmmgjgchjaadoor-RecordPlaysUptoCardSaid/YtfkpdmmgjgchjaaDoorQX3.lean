import Derived.Test.YtfkpdmmgjgchjaaDoorQX2
/-
  RecordReads, pure: the reference's fields are readParts' own.
-/
namespace Go.Proofs.YtfkpdmmgjgchjaaDoor
open Go Go.RowKit
open Wb

/-- behind the last tag -/
def rfin (b : List Nat) (p : Int) (q : Pts) : Nat × Pts := if p = (b.length : Int) then (0, q) else if (Wn.ru b p).2.2 ≠ 0 then ((Wn.ru b p).2.2, q) else (37, q)
/-- the reference's fields from the tag 12 - n on -/
def rff (b : List Nat) : Nat → Int → Pts → Nat × Pts
  | 0, p, q => rfin b p q
  | n + 1, p, q =>
    if p < (b.length : Int) then
      (if (Wn.ru b p).2.2 ≠ 0 then ((Wn.ru b p).2.2, q)
       else if (Wn.ru b p).1 ≠ 11 - n then rff b n p q
       else if (rrd b (Wn.ru b p).2.1 (11 - n) q).2.1 ≠ 0 then ((rrd b (Wn.ru b p).2.1 (11 - n) q).2.1, (rrd b (Wn.ru b p).2.1 (11 - n) q).2.2)
       else if zeroT (rrd b (Wn.ru b p).2.1 (11 - n) q).2.2.x (bstr (rrd b (Wn.ru b p).2.1 (11 - n) q).2.2.nm) (rrd b (Wn.ru b p).2.1 (11 - n) q).2.2.l.length (11 - n) then (38, (rrd b (Wn.ru b p).2.1 (11 - n) q).2.2)
       else rff b n (rrd b (Wn.ru b p).2.1 (11 - n) q).1 (rrd b (Wn.ru b p).2.1 (11 - n) q).2.2)
    else rfin b p q
theorem rdp_end (b : List Nat) (hok : ok b) (p : Nat) (t : Nat) (q : Pts) (h : (rdp b (p : Int) t q).2.1 = 0) : ∃ p2 : Nat, (rdp b (p : Int) t q).1 = (p2 : Int) ∧ p2 ≤ b.length := by
  unfold rdp at h ⊢
  split
  · rename_i h7
    rw [if_pos h7] at h
    simp only at h ⊢
    obtain ⟨_, _, p2, h1, h2, _⟩ := ri_inv b hok p (ri b p).1 (ri b p).2.1 (by rw [← h])
    exact ⟨p2, h1, h2⟩
  · rename_i h7
    rw [if_neg h7] at h
    split
    · rename_i h10
      rw [if_pos h10] at h
      simp only at h ⊢
      obtain ⟨_, p2, h1, h2, _⟩ := rb_inv b hok p 192 (rb b p 192).1 (rb b p 192).2.1 (by rw [← h])
      exact ⟨p2, h1, h2⟩
    · rename_i h10
      rw [if_neg h10] at h
      split
      · rename_i h11
        rw [if_pos h11] at h
        simp only at h ⊢
        obtain ⟨_, p2, h1, h2, _⟩ := rb_inv b hok p 16384 (rb b p 16384).1 (rb b p 16384).2.1 (by rw [← h])
        exact ⟨p2, h1, h2⟩
      · rename_i h11
        rw [if_neg h11] at h
        simp only at h ⊢
        obtain ⟨_, _, p2, h1, h2, _⟩ := rn_inv b hok p (rn b p).1 (rn b p).2.1 (by rw [← h])
        exact ⟨p2, h1, h2⟩
/-- the same first error, and the same fields -/
theorem rff_rpF (b : List Nat) (hok : ok b) : ∀ (n p last m : Nat) (q : Pts), n ≤ 11 → p ≤ b.length → last < 12 - n → n < m → ((p < b.length) → (Wn.ru b (p : Int)).2.2 = 0 → (Wn.ru b (p : Int)).1 ≤ last ∨ 12 - n ≤ (Wn.ru b (p : Int)).1) →
    (rff b n (p : Int) q).1 = (rpF b m (p : Int) last q).1 ∧ ((rpF b m (p : Int) last q).1 = 0 → (rff b n (p : Int) q).2 = (rpF b m (p : Int) last q).2)
  | 0, p, last, m, q, _, hp, hl, hm, hg => by
    obtain ⟨m, rfl⟩ : ∃ k, m = k + 1 := ⟨m - 1, by omega⟩
    unfold rff rfin rpF
    by_cases hlt : p < b.length
    · rw [if_pos (show (p : Int) < (b.length : Int) by omega), if_neg (show ¬ (p : Int) = (b.length : Int) by omega)]
      by_cases he : (Wn.ru b (p : Int)).2.2 = 0
      · have hh := hg hlt he
        have hrt : rt b (p : Int) last = (0, 0, 37) := by
          unfold rt
          rw [if_neg (by simpa using he), if_pos (show (Wn.ru b (p : Int)).1 ≤ last ∨ 11 < (Wn.ru b (p : Int)).1 by omega)]
        rw [hrt, if_neg (by simpa using he)]
        simp
      · have hrt : rt b (p : Int) last = (0, 0, (Wn.ru b (p : Int)).2.2) := by
          unfold rt
          rw [if_pos he]
        rw [hrt, if_pos he]
        simp [he]
    · rw [if_neg (show ¬ (p : Int) < (b.length : Int) by omega), if_pos (show (p : Int) = (b.length : Int) by omega)]
      simp
  | n + 1, p, last, m, q, hn, hp, hl, hm, hg => by
    by_cases hlt : p < b.length
    · by_cases he : (Wn.ru b (p : Int)).2.2 = 0
      · by_cases heq : (Wn.ru b (p : Int)).1 = 11 - n
        · obtain ⟨m, rfl⟩ : ∃ k, m = k + 1 := ⟨m - 1, by omega⟩
          unfold rff rpF
          rw [if_pos (show (p : Int) < (b.length : Int) by omega), if_pos (show (p : Int) < (b.length : Int) by omega), if_neg (by simpa using he), if_neg (by simpa using heq)]
          have hrt : rt b (p : Int) last = (11 - n, (Wn.ru b (p : Int)).2.1, 0) := by
            unfold rt
            rw [if_neg (by simpa using he), if_neg (by omega), heq]
          rw [hrt]
          simp only [ne_eq, not_true_eq_false, if_false]
          obtain ⟨pn, _, hpn⟩ : ∃ pn : Nat, True ∧ (Wn.ru b (p : Int)).2.1 = (pn : Int) := by
            obtain ⟨v, e, c, hr⟩ : ∃ v e c, Wn.ru b (p : Int) = (v, e, c) := ⟨_, _, _, rfl⟩
            rw [hr] at he ⊢
            simp only at he ⊢
            subst he
            obtain ⟨k, _, _, h3, _⟩ := ru_inv b hok _ v e hr
            exact ⟨_, trivial, h3⟩
          rw [hpn]
          rw [rrd_err]
          by_cases hr : (rdp b (pn : Int) (11 - n) q).2.1 = 0
          · rw [rrd_ok b _ _ q hr]
            simp only [hr, not_true_eq_false, if_false]
            by_cases hz : zeroT (rdp b (pn : Int) (11 - n) q).2.2.x (bstr (rdp b (pn : Int) (11 - n) q).2.2.nm) (rdp b (pn : Int) (11 - n) q).2.2.l.length (11 - n) = true
            · rw [if_pos hz, if_pos hz]
              simp
            · rw [if_neg hz, if_neg hz]
              obtain ⟨p2, h1, h2⟩ := rdp_end b hok pn (11 - n) q hr
              rw [h1]
              exact rff_rpF b hok n p2 (11 - n) m _ (by omega) h2 (by omega) (by omega) (fun _ _ => by omega)
          · rw [if_pos hr, if_pos hr]
            simp [hr]
        · have hstep : rff b (n + 1) (p : Int) q = rff b n (p : Int) q := by
            conv => lhs; unfold rff
            rw [if_pos (show (p : Int) < (b.length : Int) by omega), if_neg (by simpa using he), if_pos heq]
          rw [hstep]
          exact rff_rpF b hok n p last m q (by omega) hp (by omega) (by omega) (fun h1 h2 => by have := hg h1 h2; omega)
      · obtain ⟨m, rfl⟩ : ∃ k, m = k + 1 := ⟨m - 1, by omega⟩
        have hrt : rt b (p : Int) last = (0, 0, (Wn.ru b (p : Int)).2.2) := by
          unfold rt
          rw [if_pos he]
        unfold rff rpF
        rw [if_pos (show (p : Int) < (b.length : Int) by omega), if_pos (show (p : Int) < (b.length : Int) by omega), if_pos he, hrt]
        simp [he]
    · obtain ⟨m, rfl⟩ : ∃ k, m = k + 1 := ⟨m - 1, by omega⟩
      unfold rff rfin rpF
      rw [if_neg (show ¬ (p : Int) < (b.length : Int) by omega), if_neg (show ¬ (p : Int) < (b.length : Int) by omega), if_pos (show (p : Int) = (b.length : Int) by omega)]
      simp
theorem rff_all (b : List Nat) (hok : ok b) : (rff b 11 0 zeroPts).1 = (rpF b 12 0 0 zeroPts).1 ∧ ((rpF b 12 0 0 zeroPts).1 = 0 → (rff b 11 0 zeroPts).2 = (rpF b 12 0 0 zeroPts).2) := by
  have := rff_rpF b hok 11 0 0 12 zeroPts (by omega) (by omega) (by omega) (by omega) (fun _ _ => by omega)
  exact this
end Go.Proofs.YtfkpdmmgjgchjaaDoor

/-
  The reference's record: fields, Decode.
-/
namespace Go.Proofs.YtfkpdmmgjgchjaaDoor
open Go Go.RowKit
open Wb

theorem box_cellsB {w : World} {g : Nat} {x : Nums} {nm : ByteArray} {d : Value} (h : Box w g x nm d) (y : Nums) (nm2 : ByteArray) (d2 : Value) : Box (w.setCells g 0 [.int .i64 y.v, .int .i64 y.k, .int .i64 y.s, .int .i64 y.p, .int .i64 y.t, .int .i64 y.a, .int .i64 y.l, .int .i64 y.c, .int .i64 y.n, .int .i64 y.i, .string nm2, d2]) g y nm2 d2 := by
  unfold Box at *
  simp [World.setCells, World.setCell, Array.getElem?_modify, h]
theorem box_otherB {w : World} {g g' : Nat} {x : Nums} {nm : ByteArray} {d : Value} (h : Box w g x nm d) (o : Nat) (vs : List Value) (hne : g ≠ g') : Box (w.setCells g' o vs) g x nm d := (cells_other g' vs o w g hne).trans h
theorem zeroT_ofV (x : Nums) (nm : ByteArray) (n t : Nat) (v : Int) : zeroT (x.ofV v) nm n t = zeroT x nm n t := rfl
set_option maxRecDepth 100000 in
set_option maxHeartbeats 8000000 in
theorem reffields_any (v : Int) (bv : Value) (b : List Nat) (w : World) (hb : Bs w bv b) (hlen : b.length ≤ 140737488355328) (A : Nat × Pts) (hA : rff b 11 0 zeroPts = A) :
    Calls Tryd.prog 42 #[.int .i64 v, bv] w fun e w' => ∃ ao, ∃ cap : Nat, e = .returned (.tuple #[rv (A.2.x.ofV v) (bstr A.2.nm) (.slice ao A.2.l.length cap), .int .i64 (A.1 : Int)]) ∧ Bs w' (.slice ao A.2.l.length cap) A.2.l ∧ (∀ g, g < w.heap.size → OffB g (.slice ao A.2.l.length cap) A.2.l) ∧ Below w.heap.size w w' := by
  have HIR : Hid ((Tryd.prog.info? 24).map (·.size) = some 12) := infoRec
  have HX : Hid (∀ o1 o2, ((w.alloc o1).alloc o2).heap[w.heap.size]? = some o1 ∧ ((w.alloc o1).alloc o2).heap[w.heap.size + 1]? = some o2 ∧ Below w.heap.size w ((w.alloc o1).alloc o2)) := fun o1 o2 => heap2 w o1 o2
  have HA : Hid (rff b 11 0 zeroPts = A) := hA
  have HBB : Hid (∀ w', Below w.heap.size w w' → Bs w' bv b) := fun w' hb' => hb.kept hb'
  have hru := rru_any bv b
  unfold tup3 at hru
  have HRU : Hid (∀ p w', Below w.heap.size w w' → Calls Tryd.prog 63 #[bv, .int .i64 p] w' fun e w'' => e = .returned (.tuple #[.int .u64 ((Wn.ru b p).1 : Int), .int .i64 (Wn.ru b p).2.1, .int .i64 ((Wn.ru b p).2.2 : Int)]) ∧ w' = w'') := fun p w' hb' => hru p w' (hb.kept hb') hlen
  have HRD : Hid (∀ (q : Pts) d p (t : Nat) w', Below w.heap.size w w' → Bs w' d q.l → 1 ≤ t → t ≤ 11 → Calls Tryd.prog 64 #[rv (q.x.ofV v) (bstr q.nm) d, .int .i64 (t : Int), bv, .int .i64 p] w' fun e w'' => ∃ ao, ∃ cap : Nat, e = .returned (.tuple #[rv ((rrd b p t q).2.2.x.ofV v) (bstr (rrd b p t q).2.2.nm) (.slice ao (rrd b p t q).2.2.l.length cap), .int .i64 (rrd b p t q).1, .int .i64 ((rrd b p t q).2.1 : Int)]) ∧ Bs w'' (.slice ao (rrd b p t q).2.2.l.length cap) (rrd b p t q).2.2.l ∧ (∀ g, g < w'.heap.size → OffB g d q.l → OffB g (.slice ao (rrd b p t q).2.2.l.length cap) (rrd b p t q).2.2.l) ∧ Below w'.heap.size w' w'') := fun q d p t w' hb' hbs h1 h2 => refread_any v q d bv b p t w' hbs (hb.kept hb') hlen h1 h2
  obtain ⟨ab, cb, rfl, hcb, hmb, _⟩ := hb.shape
  unfold maxLen at hmb
  clear hb hA hru
  unfold rv at *
  go_enter Tryd.func42, Tryd.ntmps42
  go_wp2
  go_loopw [7, 8] (fun u i wr => ∃ (k : Nat) (P : Int) (q : Pts) (aq : Option Addr) (cq : Nat), 1 ≤ k ∧ k ≤ 12 ∧ u = .int .i64 P ∧ i = .int .i64 (k : Int) ∧ rff b (12 - k) P q = A ∧ Box wr (w.heap.size + 1) (q.x.ofV v) (bstr q.nm) (.slice aq q.l.length cq) ∧ Bs wr (.slice aq q.l.length cq) q.l ∧ (∀ g, g < w.heap.size + 2 → OffB g (.slice aq q.l.length cq) q.l) ∧ Box wr w.heap.size zeroNums ⟨#[]⟩ (.slice none 0 0) ∧ Below w.heap.size w wr) (fun _ i _ => 12 - (intOf i).toNat)
  case atStart => exact ⟨1, 0, zeroPts, none, 0, by omega, by omega, rfl, rfl, HA.out, (HX.out _ _).2.1, Bs.nil _, fun _ _ h => absurd rfl h, (HX.out _ _).1, (HX.out _ _).2.2⟩
  case round =>
    obtain ⟨k, P, q, aq, cq, hk1, hk12, rfl, rfl, hra, hbx, hbq, hof, hbz, hbel⟩ := hrel
    have HRA : Hid (rff b (12 - k) P q = A) := hra
    clear hra HA HX
    by_cases hgo : k ≤ 11 ∧ P < (b.length : Int)
    · obtain ⟨hk11, hP⟩ := hgo
      have HST : Hid ((if (Wn.ru b P).2.2 ≠ 0 then ((Wn.ru b P).2.2, q) else if (Wn.ru b P).1 ≠ k then rff b (12 - (k + 1)) P q else if (rrd b (Wn.ru b P).2.1 k q).2.1 ≠ 0 then ((rrd b (Wn.ru b P).2.1 k q).2.1, (rrd b (Wn.ru b P).2.1 k q).2.2) else if zeroT (rrd b (Wn.ru b P).2.1 k q).2.2.x (bstr (rrd b (Wn.ru b P).2.1 k q).2.2.nm) (rrd b (Wn.ru b P).2.1 k q).2.2.l.length k then (38, (rrd b (Wn.ru b P).2.1 k q).2.2) else rff b (12 - (k + 1)) (rrd b (Wn.ru b P).2.1 k q).1 (rrd b (Wn.ru b P).2.1 k q).2.2) = A) := by
        show _ = _
        rw [← HRA.out, show 12 - k = (11 - k) + 1 by omega]
        conv => rhs; unfold rff
        rw [if_pos hP, show 11 - (11 - k) = k by omega, show 12 - (k + 1) = 11 - k by omega]
      have HR1 : Hid (∀ w', Below w.heap.size w w' → Calls Tryd.prog 63 #[.slice ab b.length cb, .int .i64 P] w' fun e w'' => e = .returned (.tuple #[.int .u64 ((Wn.ru b P).1 : Int), .int .i64 (Wn.ru b P).2.1, .int .i64 ((Wn.ru b P).2.2 : Int)]) ∧ w' = w'') := fun w' hb' => HRU.out P w' hb'
      have HD1 : Hid (∀ w', Below w.heap.size w w' → Bs w' (.slice aq q.l.length cq) q.l → Calls Tryd.prog 64 #[.agg #[.int .i64 (q.x.ofV v).v, .int .i64 (q.x.ofV v).k, .int .i64 (q.x.ofV v).s, .int .i64 (q.x.ofV v).p, .int .i64 (q.x.ofV v).t, .int .i64 (q.x.ofV v).a, .int .i64 (q.x.ofV v).l, .int .i64 (q.x.ofV v).c, .int .i64 (q.x.ofV v).n, .int .i64 (q.x.ofV v).i, .string (bstr q.nm), .slice aq q.l.length cq], .int .i64 (k : Int), .slice ab b.length cb, .int .i64 (Wn.ru b P).2.1] w' fun e w'' => ∃ ao, ∃ cap : Nat, e = .returned (.tuple #[.agg #[.int .i64 ((rrd b (Wn.ru b P).2.1 k q).2.2.x.ofV v).v, .int .i64 ((rrd b (Wn.ru b P).2.1 k q).2.2.x.ofV v).k, .int .i64 ((rrd b (Wn.ru b P).2.1 k q).2.2.x.ofV v).s, .int .i64 ((rrd b (Wn.ru b P).2.1 k q).2.2.x.ofV v).p, .int .i64 ((rrd b (Wn.ru b P).2.1 k q).2.2.x.ofV v).t, .int .i64 ((rrd b (Wn.ru b P).2.1 k q).2.2.x.ofV v).a, .int .i64 ((rrd b (Wn.ru b P).2.1 k q).2.2.x.ofV v).l, .int .i64 ((rrd b (Wn.ru b P).2.1 k q).2.2.x.ofV v).c, .int .i64 ((rrd b (Wn.ru b P).2.1 k q).2.2.x.ofV v).n, .int .i64 ((rrd b (Wn.ru b P).2.1 k q).2.2.x.ofV v).i, .string (bstr (rrd b (Wn.ru b P).2.1 k q).2.2.nm), .slice ao (rrd b (Wn.ru b P).2.1 k q).2.2.l.length cap], .int .i64 (rrd b (Wn.ru b P).2.1 k q).1, .int .i64 ((rrd b (Wn.ru b P).2.1 k q).2.1 : Int)]) ∧ Bs w'' (.slice ao (rrd b (Wn.ru b P).2.1 k q).2.2.l.length cap) (rrd b (Wn.ru b P).2.1 k q).2.2.l ∧ (∀ g, g < w'.heap.size → OffB g (.slice aq q.l.length cq) q.l → OffB g (.slice ao (rrd b (Wn.ru b P).2.1 k q).2.2.l.length cap) (rrd b (Wn.ru b P).2.1 k q).2.2.l) ∧ Below w'.heap.size w' w'') := fun w' hb' hbs => HRD.out q _ _ k w' hb' hbs hk1 hk11
      have i1 : IntKind.u64.wrap (k : Int) = (k : Int) := IntWalk.u64_in _ (by omega)
      clear HRA HRU HRD HBB
      generalize rrd b (Wn.ru b P).2.1 k q = R at *
      generalize (Wn.ru b P).1 = ra at *
      generalize (Wn.ru b P).2.1 = rp at *
      generalize (Wn.ru b P).2.2 = rc at *
      obtain ⟨Rp, Re, Rq⟩ := R
      simp only at HST HD1
      by_cases hc : rc = 0
      · subst hc
        by_cases hg : ra = k
        · subst hg
          have HST2 : Hid ((if Re ≠ 0 then (Re, Rq) else if zeroT Rq.x (bstr Rq.nm) Rq.l.length ra then (38, Rq) else rff b (12 - (ra + 1)) Rp Rq) = A) := by
            show _ = _
            rw [← HST.out, if_neg (show ¬ (0 : Nat) ≠ 0 by simp), if_neg (show ¬ ra ≠ ra by simp)]
          have dg : ((ra : Int) != (ra : Int)) = false := by simp
          have HZR : Hid (∀ ao (cap : Nat) w', Calls Tryd.prog 34 #[.agg #[.int .i64 (Rq.x.ofV v).v, .int .i64 (Rq.x.ofV v).k, .int .i64 (Rq.x.ofV v).s, .int .i64 (Rq.x.ofV v).p, .int .i64 (Rq.x.ofV v).t, .int .i64 (Rq.x.ofV v).a, .int .i64 (Rq.x.ofV v).l, .int .i64 (Rq.x.ofV v).c, .int .i64 (Rq.x.ofV v).n, .int .i64 (Rq.x.ofV v).i, .string (bstr Rq.nm), .slice ao Rq.l.length cap], .int .i64 (ra : Int)] w' fun e w'' => e = .returned (.bool (zeroT Rq.x (bstr Rq.nm) Rq.l.length ra)) ∧ Below w'.heap.size w' w'') := fun ao cap w' => rzero_any (Rq.x.ofV v) (bstr Rq.nm) ao Rq.l.length cap ra w' hk1 hk11
          clear HST
          generalize q.x.ofV v = X at *
          obtain ⟨Y, hY⟩ : ∃ Y, Rq.x.ofV v = Y := ⟨_, rfl⟩
          have HY : Hid (Rq.x.ofV v = Y) := hY
          rw [hY] at HZR HD1
          clear hY
          have hltb : w.heap.size + 1 < wr.heap.size := hbx.lt
          obtain ⟨c0, c1, c2, c3, c4, c5, c6, c7, c8, c9, c10, c11⟩ := hbx.cells
          go_wp2_with fail
          refine (HR1.out _ hbel).mono ?_
          rintro e w2 ⟨rfl, rfl⟩
          go_wp2_with fail
          refine (HD1.out _ hbel hbq).mono ?_
          rintro e w5 ⟨a5, cp5, rfl, hb5, ho5, b5⟩
          have hK5 := hbx.kept b5
          have hz5 := hbz.kept b5
          have B5 := andThen hbel b5
          have HO5 : Hid (∀ g, g < w.heap.size + 2 → OffB g (.slice a5 Rq.l.length cp5) Rq.l) := fun g hg => ho5 g (by omega) (hof g hg)
          have HN5 : Hid (Bs (w5.setCells (w.heap.size + 1) 0 [.int .i64 Y.v, .int .i64 Y.k, .int .i64 Y.s, .int .i64 Y.p, .int .i64 Y.t, .int .i64 Y.a, .int .i64 Y.l, .int .i64 Y.c, .int .i64 Y.n, .int .i64 Y.i, .string (bstr Rq.nm), .slice a5 Rq.l.length cp5]) (.slice a5 Rq.l.length cp5) Rq.l ∧ Box (w5.setCells (w.heap.size + 1) 0 [.int .i64 Y.v, .int .i64 Y.k, .int .i64 Y.s, .int .i64 Y.p, .int .i64 Y.t, .int .i64 Y.a, .int .i64 Y.l, .int .i64 Y.c, .int .i64 Y.n, .int .i64 Y.i, .string (bstr Rq.nm), .slice a5 Rq.l.length cp5]) (w.heap.size + 1) Y (bstr Rq.nm) (.slice a5 Rq.l.length cp5) ∧ Box (w5.setCells (w.heap.size + 1) 0 [.int .i64 Y.v, .int .i64 Y.k, .int .i64 Y.s, .int .i64 Y.p, .int .i64 Y.t, .int .i64 Y.a, .int .i64 Y.l, .int .i64 Y.c, .int .i64 Y.n, .int .i64 Y.i, .string (bstr Rq.nm), .slice a5 Rq.l.length cp5]) w.heap.size zeroNums ⟨#[]⟩ (.slice none 0 0) ∧ Below w.heap.size w (w5.setCells (w.heap.size + 1) 0 [.int .i64 Y.v, .int .i64 Y.k, .int .i64 Y.s, .int .i64 Y.p, .int .i64 Y.t, .int .i64 Y.a, .int .i64 Y.l, .int .i64 Y.c, .int .i64 Y.n, .int .i64 Y.i, .string (bstr Rq.nm), .slice a5 Rq.l.length cp5])) := ⟨bs_offB hb5 _ _ _ (HO5.out _ (by omega)), box_cellsB hK5 _ _ _, box_otherB hz5 _ _ (by omega), below_cells (by omega) _ _ _ B5⟩
          have HZ1 : Hid (∀ w', Calls Tryd.prog 34 #[.agg ([.int .i64 Y.v, .int .i64 Y.k, .int .i64 Y.s, .int .i64 Y.p, .int .i64 Y.t, .int .i64 Y.a, .int .i64 Y.l, .int .i64 Y.c, .int .i64 Y.n, .int .i64 Y.i, .string (bstr Rq.nm), .slice a5 Rq.l.length cp5] : List Value).toArray, .int .i64 (ra : Int)] w' fun e w'' => e = .returned (.bool (zeroT Rq.x (bstr Rq.nm) Rq.l.length ra)) ∧ Below w'.heap.size w' w'') := fun w' => HZR.out _ _ w'
          have HTH5 : Hid (w5.there (w.heap.size + 1) 0 12) := hK5.there
          have HZ5 : Hid (Box w5 w.heap.size zeroNums ⟨#[]⟩ (.slice none 0 0)) := hz5
          clear c0 c1 c2 c3 c4 c5 c6 c7 c8 c9 c10 c11 hb5 ho5 hof b5 B5 hK5 hz5 hbx hbz hbq hbel HD1 HR1 HZR
          obtain ⟨D, hD⟩ : ∃ D : List Value, ([.int .i64 Y.v, .int .i64 Y.k, .int .i64 Y.s, .int .i64 Y.p, .int .i64 Y.t, .int .i64 Y.a, .int .i64 Y.l, .int .i64 Y.c, .int .i64 Y.n, .int .i64 Y.i, .string (bstr Rq.nm), .slice a5 Rq.l.length cp5] : List Value) = D := ⟨_, rfl⟩
          have HDE : Hid (([.int .i64 Y.v, .int .i64 Y.k, .int .i64 Y.s, .int .i64 Y.p, .int .i64 Y.t, .int .i64 Y.a, .int .i64 Y.l, .int .i64 Y.c, .int .i64 Y.n, .int .i64 Y.i, .string (bstr Rq.nm), .slice a5 Rq.l.length cp5] : List Value) = D) := hD
          rw [hD] at HN5 HZ1 ⊢
          have HDL : Hid (D.length = 12) := by show _ = _; rw [← hD]; rfl
          have HDO : Hid (D.toArray.all (·.oneCell') = true) := by show _ = _; rw [← hD]; simp [Value.oneCell']
          clear hD
          have HDI : Hid ((Tryd.prog.info? 24).map (·.size) = some D.length) := by show _ = _; rw [HDL.out]; exact HIR.out
          have hst5 : (storeCells ⟨w.heap.size + 1, 0, none⟩ D).run Tryd.prog w5 = .ok () (w5.setCells (w.heap.size + 1) 0 D) := run_storeCells_cells (P := Tryd.prog) (w.heap.size + 1) 0 D 0 w5 (fun j hj => by rw [HDL.out] at hj; simpa using (HTH5.out j hj).1) (fun j hj => by rw [HDL.out] at hj; simpa using (HTH5.out j hj).2) (fun v hv => (Array.all_eq_true_iff_forall_mem.1 HDO.out) v (by simpa using hv))
          have HRG5 : Hid ((w5.setCells (w.heap.size + 1) 0 D).rangeAt (w.heap.size + 1) 0 D) := World.rangeAt_setCells_same w5 (w.heap.size + 1) 0 D (by rw [HDL.out]; exact HTH5.out)
          have HST4 : Hid (∀ W : World, W.there w.heap.size 0 12 → (storeCells ⟨w.heap.size, 0, none⟩ D).run Tryd.prog W = .ok () (W.setCells w.heap.size 0 D)) := fun W ht => run_storeCells_cells (P := Tryd.prog) w.heap.size 0 D 0 W (fun j hj => by rw [HDL.out] at hj; simpa using (ht j hj).1) (fun j hj => by rw [HDL.out] at hj; simpa using (ht j hj).2) (fun v hv => (Array.all_eq_true_iff_forall_mem.1 HDO.out) v (by simpa using hv))
          by_cases he : Re = 0
          · subst he
            have HST3 : Hid ((if zeroT Rq.x (bstr Rq.nm) Rq.l.length ra then (38, Rq) else rff b (12 - (ra + 1)) Rp Rq) = A) := by show _ = _; rw [← HST2.out, if_neg (show ¬ (0 : Nat) ≠ 0 by simp)]
            clear HST2
            have hrng := HRG5.out
            go_wp2_with (first
              | (refine wpList_load_mid rfl 24 _ rfl (w.heap.size + 1) 0 rfl D _ hrng Tryd.underlying24 rfl HDI.out ?_)
              | fail)
            refine (HZ1.out _).mono ?_
            rintro e w6 ⟨rfl, b6⟩
            have hb6 := HN5.out.1.kept b6
            have hx6 := HN5.out.2.1.kept b6
            have hz6 := HN5.out.2.2.1.kept b6
            have B6 := andThen HN5.out.2.2.2 b6
            clear b6 HN5 HZ1 hst5 hrng HRG5
            cases hzz : zeroT Rq.x (bstr Rq.nm) Rq.l.length ra with
            | true =>
              have hE : (38, Rq) = A := by rw [← HST3.out, hzz]; rfl
              subst hE
              have hrng : w6.rangeAt (w.heap.size + 1) 0 D := by rw [← HDE.out]; exact World.rangeAt_of_block hx6 0 12
              have hst4 := HST4.out w6 hz6.there
              have HTH : Hid (w6.there w.heap.size 0 12) := hz6.there
              have HBF : Hid (Bs (w6.setCells w.heap.size 0 D) (.slice a5 Rq.l.length cp5) Rq.l ∧ Below w.heap.size w (w6.setCells w.heap.size 0 D)) := ⟨bs_offB hb6 _ _ _ (HO5.out _ (by omega)), below_cells (Nat.le_refl _) _ 0 _ B6⟩
              clear hx6 hz6 hb6 B6 HST3 hzz HST4
              go_wp2_with (first
                | (refine wpList_load_mid rfl 24 _ rfl (w.heap.size + 1) 0 rfl D _ hrng Tryd.underlying24 rfl HDI.out ?_))
              have HRG := World.rangeAt_setCells_same w6 w.heap.size 0 D (by rw [HDL.out]; exact HTH.out)
              refine bodyPost_ret (results_cell_slot (p := 4) (s := 5) (ty := 24) rfl _ _ w.heap.size D _ rfl HRG Tryd.underlying24 rfl HDI.out) rfl ?_
              exact ⟨a5, cp5, by rw [← HDE.out]; simp only [HY.out]; rfl, HBF.out.1, fun g hg => HO5.out g (by omega), HBF.out.2⟩
            | false =>
              have HNX : Hid (rff b (12 - (ra + 1)) Rp Rq = A) := by show _ = _; rw [← HST3.out, hzz]; rfl
              clear HST3 hzz HST4
              go_wp2
              go_roundw
              case rel => exact ⟨ra + 1, Rp, Rq, a5, cp5, by omega, by omega, rfl, by go_num, HNX.out, by rw [HY.out]; exact hx6, hb6, HO5.out, hz6, B6⟩
              case measure => simp [intOf]; omega
          · have hE : (Re, Rq) = A := by rw [← HST2.out, if_pos he]
            subst hE
            have de : ((Re : Int) != 0) = true := by rw [bne_iff_ne]; omega
            have hrng := HRG5.out
            have hst4 := HST4.out _ HN5.out.2.2.1.there
            have HTH : Hid ((w5.setCells (w.heap.size + 1) 0 D).there w.heap.size 0 12) := HN5.out.2.2.1.there
            have HBF : Hid (Bs ((w5.setCells (w.heap.size + 1) 0 D).setCells w.heap.size 0 D) (.slice a5 Rq.l.length cp5) Rq.l ∧ Below w.heap.size w ((w5.setCells (w.heap.size + 1) 0 D).setCells w.heap.size 0 D)) := ⟨bs_offB HN5.out.1 _ _ _ (HO5.out _ (by omega)), below_cells (Nat.le_refl _) _ 0 _ HN5.out.2.2.2⟩
            clear HST2 HZ1 he HN5 HST4 HRG5
            go_wp2_with (first
              | (refine wpList_load_mid rfl 24 _ rfl (w.heap.size + 1) 0 rfl D _ hrng Tryd.underlying24 rfl HDI.out ?_))
            have HRG := World.rangeAt_setCells_same (w5.setCells (w.heap.size + 1) 0 D) w.heap.size 0 D (by rw [HDL.out]; exact HTH.out)
            refine bodyPost_ret (results_cell_slot (p := 4) (s := 5) (ty := 24) rfl _ _ w.heap.size D _ rfl HRG Tryd.underlying24 rfl HDI.out) rfl ?_
            exact ⟨a5, cp5, by rw [← HDE.out]; simp only [HY.out]; rfl, HBF.out.1, fun g hg => HO5.out g (by omega), HBF.out.2⟩
        · have HNX : Hid (rff b (12 - (k + 1)) P q = A) := by show _ = _; rw [← HST.out, if_neg (show ¬ (0 : Nat) ≠ 0 by simp), if_pos hg]
          have dg : ((ra : Int) != (k : Int)) = true := by rw [bne_iff_ne]; omega
          clear HST HD1
          go_wp2_with fail
          refine (HR1.out _ hbel).mono ?_
          rintro e w2 ⟨rfl, rfl⟩
          go_wp2
          go_roundw
          case rel => exact ⟨k + 1, P, q, aq, cq, by omega, by omega, rfl, by go_num, HNX.out, hbx, hbq, hof, hbz, hbel⟩
          case measure => simp [intOf]; omega
      · have hE : (rc, q) = A := by rw [← HST.out, if_pos hc]
        subst hE
        have de : ((rc : Int) != 0) = true := by rw [bne_iff_ne]; omega
        clear HST HD1 hc
        obtain ⟨X, hXe⟩ : ∃ X, q.x.ofV v = X := ⟨_, rfl⟩
        have HXE : Hid (q.x.ofV v = X) := hXe
        rw [hXe] at hbx
        clear hXe
        go_wp2_with fail
        refine (HR1.out _ hbel).mono ?_
        rintro e w2 ⟨rfl, rfl⟩
        have HTH : Hid (wr.there w.heap.size 0 12) := hbz.there
        have HBF : Hid (Bs (wr.setCells w.heap.size 0 [.int .i64 X.v, .int .i64 X.k, .int .i64 X.s, .int .i64 X.p, .int .i64 X.t, .int .i64 X.a, .int .i64 X.l, .int .i64 X.c, .int .i64 X.n, .int .i64 X.i, .string (bstr q.nm), .slice aq q.l.length cq]) (.slice aq q.l.length cq) (q.l) ∧ Below w.heap.size w (wr.setCells w.heap.size 0 [.int .i64 X.v, .int .i64 X.k, .int .i64 X.s, .int .i64 X.p, .int .i64 X.t, .int .i64 X.a, .int .i64 X.l, .int .i64 X.c, .int .i64 X.n, .int .i64 X.i, .string (bstr q.nm), .slice aq q.l.length cq])) := ⟨bs_offB hbq _ _ _ (hof _ (by omega)), below_cells (Nat.le_refl _) _ 0 _ hbel⟩
        obtain ⟨m0, m1, m2, m3, m4, m5, m6, m7, m8, m9, m10, m11⟩ := hbx.cells
        obtain ⟨z0, z1, z2, z3, z4, z5, z6, z7, z8, z9, z10, z11⟩ := hbz.cells
        have f0 := hbz.free' 0
        have f1 := hbz.free' 1
        have f2 := hbz.free' 2
        have f3 := hbz.free' 3
        have f4 := hbz.free' 4
        have f5 := hbz.free' 5
        have f6 := hbz.free' 6
        have f7 := hbz.free' 7
        have f8 := hbz.free' 8
        have f9 := hbz.free' 9
        have f10 := hbz.free' 10
        have f11 := hbz.free' 11
        clear hbx hbz hbq hbel
        go_wp2
        have HRG := World.rangeAt_setCells_same wr w.heap.size 0 [.int .i64 X.v, .int .i64 X.k, .int .i64 X.s, .int .i64 X.p, .int .i64 X.t, .int .i64 X.a, .int .i64 X.l, .int .i64 X.c, .int .i64 X.n, .int .i64 X.i, .string (bstr q.nm), .slice aq q.l.length cq] HTH.out
        refine bodyPost_ret (results_cell_slot (p := 4) (s := 5) (ty := 24) rfl _ _ w.heap.size [.int .i64 X.v, .int .i64 X.k, .int .i64 X.s, .int .i64 X.p, .int .i64 X.t, .int .i64 X.a, .int .i64 X.l, .int .i64 X.c, .int .i64 X.n, .int .i64 X.i, .string (bstr q.nm), .slice aq q.l.length cq] _ rfl HRG Tryd.underlying24 rfl HIR.out) rfl ?_
        exact ⟨_, _, by simp only [HXE.out]; rfl, HBF.out.1, fun g hg => hof g (by omega), HBF.out.2⟩
    · have HF : Hid (rfin b P q = A) := by
        show _ = _
        rw [← HRA.out]
        by_cases h12 : k = 12
        · subst h12
          rfl
        · rw [show 12 - k = (11 - k) + 1 by omega]
          conv => rhs; unfold rff
          rw [if_neg (fun h => hgo ⟨by omega, h⟩)]
      have hgo2 : 12 ≤ k ∨ (b.length : Int) ≤ P := by omega
      have HR1 : Hid (∀ w', Below w.heap.size w w' → Calls Tryd.prog 63 #[.slice ab b.length cb, .int .i64 P] w' fun e w'' => e = .returned (.tuple #[.int .u64 ((Wn.ru b P).1 : Int), .int .i64 (Wn.ru b P).2.1, .int .i64 ((Wn.ru b P).2.2 : Int)]) ∧ w' = w'') := fun w' hb' => HRU.out P w' hb'
      unfold rfin at HF
      clear HRA HRU HRD HBB hgo
      generalize (Wn.ru b P).1 = ra at *
      generalize (Wn.ru b P).2.1 = rp at *
      generalize (Wn.ru b P).2.2 = rc at *
      by_cases hPe : P = (b.length : Int)
      · have hE : (0, q) = A := by rw [← HF.out, if_pos hPe]
        subst hE
        subst hPe
        have dl : ((b.length : Int) == (b.length : Int)) = true := beq_self_eq_true _
        obtain ⟨X, hXe⟩ : ∃ X, q.x.ofV v = X := ⟨_, rfl⟩
        have HXE : Hid (q.x.ofV v = X) := hXe
        rw [hXe] at hbx
        clear hXe HF HR1
        by_cases hk : 12 ≤ k
        · obtain rfl : k = 12 := by omega
          clear hgo2
          have HTH : Hid (wr.there w.heap.size 0 12) := hbz.there
          have HBF : Hid (Bs (wr.setCells w.heap.size 0 [.int .i64 X.v, .int .i64 X.k, .int .i64 X.s, .int .i64 X.p, .int .i64 X.t, .int .i64 X.a, .int .i64 X.l, .int .i64 X.c, .int .i64 X.n, .int .i64 X.i, .string (bstr q.nm), .slice aq q.l.length cq]) (.slice aq q.l.length cq) (q.l) ∧ Below w.heap.size w (wr.setCells w.heap.size 0 [.int .i64 X.v, .int .i64 X.k, .int .i64 X.s, .int .i64 X.p, .int .i64 X.t, .int .i64 X.a, .int .i64 X.l, .int .i64 X.c, .int .i64 X.n, .int .i64 X.i, .string (bstr q.nm), .slice aq q.l.length cq])) := ⟨bs_offB hbq _ _ _ (hof _ (by omega)), below_cells (Nat.le_refl _) _ 0 _ hbel⟩
          obtain ⟨m0, m1, m2, m3, m4, m5, m6, m7, m8, m9, m10, m11⟩ := hbx.cells
          obtain ⟨z0, z1, z2, z3, z4, z5, z6, z7, z8, z9, z10, z11⟩ := hbz.cells
          have f0 := hbz.free' 0
          have f1 := hbz.free' 1
          have f2 := hbz.free' 2
          have f3 := hbz.free' 3
          have f4 := hbz.free' 4
          have f5 := hbz.free' 5
          have f6 := hbz.free' 6
          have f7 := hbz.free' 7
          have f8 := hbz.free' 8
          have f9 := hbz.free' 9
          have f10 := hbz.free' 10
          have f11 := hbz.free' 11
          clear hbx hbz hbq hbel
          go_wp2
          have HRG := World.rangeAt_setCells_same wr w.heap.size 0 [.int .i64 X.v, .int .i64 X.k, .int .i64 X.s, .int .i64 X.p, .int .i64 X.t, .int .i64 X.a, .int .i64 X.l, .int .i64 X.c, .int .i64 X.n, .int .i64 X.i, .string (bstr q.nm), .slice aq q.l.length cq] HTH.out
          refine bodyPost_ret (results_cell_slot (p := 4) (s := 5) (ty := 24) rfl _ _ w.heap.size [.int .i64 X.v, .int .i64 X.k, .int .i64 X.s, .int .i64 X.p, .int .i64 X.t, .int .i64 X.a, .int .i64 X.l, .int .i64 X.c, .int .i64 X.n, .int .i64 X.i, .string (bstr q.nm), .slice aq q.l.length cq] _ rfl HRG Tryd.underlying24 rfl HIR.out) rfl ?_
          exact ⟨_, _, by simp only [HXE.out]; rfl, HBF.out.1, fun g hg => hof g (by omega), HBF.out.2⟩
        · have hkk : k ≤ 11 := by omega
          clear hgo2
          have HTH : Hid (wr.there w.heap.size 0 12) := hbz.there
          have HBF : Hid (Bs (wr.setCells w.heap.size 0 [.int .i64 X.v, .int .i64 X.k, .int .i64 X.s, .int .i64 X.p, .int .i64 X.t, .int .i64 X.a, .int .i64 X.l, .int .i64 X.c, .int .i64 X.n, .int .i64 X.i, .string (bstr q.nm), .slice aq q.l.length cq]) (.slice aq q.l.length cq) (q.l) ∧ Below w.heap.size w (wr.setCells w.heap.size 0 [.int .i64 X.v, .int .i64 X.k, .int .i64 X.s, .int .i64 X.p, .int .i64 X.t, .int .i64 X.a, .int .i64 X.l, .int .i64 X.c, .int .i64 X.n, .int .i64 X.i, .string (bstr q.nm), .slice aq q.l.length cq])) := ⟨bs_offB hbq _ _ _ (hof _ (by omega)), below_cells (Nat.le_refl _) _ 0 _ hbel⟩
          obtain ⟨m0, m1, m2, m3, m4, m5, m6, m7, m8, m9, m10, m11⟩ := hbx.cells
          obtain ⟨z0, z1, z2, z3, z4, z5, z6, z7, z8, z9, z10, z11⟩ := hbz.cells
          have f0 := hbz.free' 0
          have f1 := hbz.free' 1
          have f2 := hbz.free' 2
          have f3 := hbz.free' 3
          have f4 := hbz.free' 4
          have f5 := hbz.free' 5
          have f6 := hbz.free' 6
          have f7 := hbz.free' 7
          have f8 := hbz.free' 8
          have f9 := hbz.free' 9
          have f10 := hbz.free' 10
          have f11 := hbz.free' 11
          clear hbx hbz hbq hbel
          go_wp2
          have HRG := World.rangeAt_setCells_same wr w.heap.size 0 [.int .i64 X.v, .int .i64 X.k, .int .i64 X.s, .int .i64 X.p, .int .i64 X.t, .int .i64 X.a, .int .i64 X.l, .int .i64 X.c, .int .i64 X.n, .int .i64 X.i, .string (bstr q.nm), .slice aq q.l.length cq] HTH.out
          refine bodyPost_ret (results_cell_slot (p := 4) (s := 5) (ty := 24) rfl _ _ w.heap.size [.int .i64 X.v, .int .i64 X.k, .int .i64 X.s, .int .i64 X.p, .int .i64 X.t, .int .i64 X.a, .int .i64 X.l, .int .i64 X.c, .int .i64 X.n, .int .i64 X.i, .string (bstr q.nm), .slice aq q.l.length cq] _ rfl HRG Tryd.underlying24 rfl HIR.out) rfl ?_
          exact ⟨_, _, by simp only [HXE.out]; rfl, HBF.out.1, fun g hg => hof g (by omega), HBF.out.2⟩
      · have dl : (P == (b.length : Int)) = false := by rw [beq_eq_false_iff_ne]; exact hPe
        by_cases hk : 12 ≤ k
        · obtain rfl : k = 12 := by omega
          clear hgo2
          by_cases hc : rc = 0
          · subst hc
            have hE : (37, q) = A := by rw [← HF.out, if_neg hPe, if_neg (by simp)]
            subst hE
            obtain ⟨X, hXe⟩ : ∃ X, q.x.ofV v = X := ⟨_, rfl⟩
            have HXE : Hid (q.x.ofV v = X) := hXe
            rw [hXe] at hbx
            clear hXe HF hPe
            go_wp2_with fail
            refine (HR1.out _ hbel).mono ?_
            rintro e w2 ⟨rfl, rfl⟩
            have HTH : Hid (wr.there w.heap.size 0 12) := hbz.there
            have HBF : Hid (Bs (wr.setCells w.heap.size 0 [.int .i64 X.v, .int .i64 X.k, .int .i64 X.s, .int .i64 X.p, .int .i64 X.t, .int .i64 X.a, .int .i64 X.l, .int .i64 X.c, .int .i64 X.n, .int .i64 X.i, .string (bstr q.nm), .slice aq q.l.length cq]) (.slice aq q.l.length cq) (q.l) ∧ Below w.heap.size w (wr.setCells w.heap.size 0 [.int .i64 X.v, .int .i64 X.k, .int .i64 X.s, .int .i64 X.p, .int .i64 X.t, .int .i64 X.a, .int .i64 X.l, .int .i64 X.c, .int .i64 X.n, .int .i64 X.i, .string (bstr q.nm), .slice aq q.l.length cq])) := ⟨bs_offB hbq _ _ _ (hof _ (by omega)), below_cells (Nat.le_refl _) _ 0 _ hbel⟩
            obtain ⟨m0, m1, m2, m3, m4, m5, m6, m7, m8, m9, m10, m11⟩ := hbx.cells
            obtain ⟨z0, z1, z2, z3, z4, z5, z6, z7, z8, z9, z10, z11⟩ := hbz.cells
            have f0 := hbz.free' 0
            have f1 := hbz.free' 1
            have f2 := hbz.free' 2
            have f3 := hbz.free' 3
            have f4 := hbz.free' 4
            have f5 := hbz.free' 5
            have f6 := hbz.free' 6
            have f7 := hbz.free' 7
            have f8 := hbz.free' 8
            have f9 := hbz.free' 9
            have f10 := hbz.free' 10
            have f11 := hbz.free' 11
            clear hbx hbz hbq hbel
            go_wp2
            have HRG := World.rangeAt_setCells_same wr w.heap.size 0 [.int .i64 X.v, .int .i64 X.k, .int .i64 X.s, .int .i64 X.p, .int .i64 X.t, .int .i64 X.a, .int .i64 X.l, .int .i64 X.c, .int .i64 X.n, .int .i64 X.i, .string (bstr q.nm), .slice aq q.l.length cq] HTH.out
            refine bodyPost_ret (results_cell_slot (p := 4) (s := 5) (ty := 24) rfl _ _ w.heap.size [.int .i64 X.v, .int .i64 X.k, .int .i64 X.s, .int .i64 X.p, .int .i64 X.t, .int .i64 X.a, .int .i64 X.l, .int .i64 X.c, .int .i64 X.n, .int .i64 X.i, .string (bstr q.nm), .slice aq q.l.length cq] _ rfl HRG Tryd.underlying24 rfl HIR.out) rfl ?_
            exact ⟨_, _, by simp only [HXE.out]; rfl, HBF.out.1, fun g hg => hof g (by omega), HBF.out.2⟩
          · have hE : (rc, q) = A := by rw [← HF.out, if_neg hPe, if_pos hc]
            subst hE
            have de : ((rc : Int) != 0) = true := by rw [bne_iff_ne]; omega
            obtain ⟨X, hXe⟩ : ∃ X, q.x.ofV v = X := ⟨_, rfl⟩
            have HXE : Hid (q.x.ofV v = X) := hXe
            rw [hXe] at hbx
            clear hXe HF hPe hc
            go_wp2_with fail
            refine (HR1.out _ hbel).mono ?_
            rintro e w2 ⟨rfl, rfl⟩
            have HTH : Hid (wr.there w.heap.size 0 12) := hbz.there
            have HBF : Hid (Bs (wr.setCells w.heap.size 0 [.int .i64 X.v, .int .i64 X.k, .int .i64 X.s, .int .i64 X.p, .int .i64 X.t, .int .i64 X.a, .int .i64 X.l, .int .i64 X.c, .int .i64 X.n, .int .i64 X.i, .string (bstr q.nm), .slice aq q.l.length cq]) (.slice aq q.l.length cq) (q.l) ∧ Below w.heap.size w (wr.setCells w.heap.size 0 [.int .i64 X.v, .int .i64 X.k, .int .i64 X.s, .int .i64 X.p, .int .i64 X.t, .int .i64 X.a, .int .i64 X.l, .int .i64 X.c, .int .i64 X.n, .int .i64 X.i, .string (bstr q.nm), .slice aq q.l.length cq])) := ⟨bs_offB hbq _ _ _ (hof _ (by omega)), below_cells (Nat.le_refl _) _ 0 _ hbel⟩
            obtain ⟨m0, m1, m2, m3, m4, m5, m6, m7, m8, m9, m10, m11⟩ := hbx.cells
            obtain ⟨z0, z1, z2, z3, z4, z5, z6, z7, z8, z9, z10, z11⟩ := hbz.cells
            have f0 := hbz.free' 0
            have f1 := hbz.free' 1
            have f2 := hbz.free' 2
            have f3 := hbz.free' 3
            have f4 := hbz.free' 4
            have f5 := hbz.free' 5
            have f6 := hbz.free' 6
            have f7 := hbz.free' 7
            have f8 := hbz.free' 8
            have f9 := hbz.free' 9
            have f10 := hbz.free' 10
            have f11 := hbz.free' 11
            clear hbx hbz hbq hbel
            go_wp2
            have HRG := World.rangeAt_setCells_same wr w.heap.size 0 [.int .i64 X.v, .int .i64 X.k, .int .i64 X.s, .int .i64 X.p, .int .i64 X.t, .int .i64 X.a, .int .i64 X.l, .int .i64 X.c, .int .i64 X.n, .int .i64 X.i, .string (bstr q.nm), .slice aq q.l.length cq] HTH.out
            refine bodyPost_ret (results_cell_slot (p := 4) (s := 5) (ty := 24) rfl _ _ w.heap.size [.int .i64 X.v, .int .i64 X.k, .int .i64 X.s, .int .i64 X.p, .int .i64 X.t, .int .i64 X.a, .int .i64 X.l, .int .i64 X.c, .int .i64 X.n, .int .i64 X.i, .string (bstr q.nm), .slice aq q.l.length cq] _ rfl HRG Tryd.underlying24 rfl HIR.out) rfl ?_
            exact ⟨_, _, by simp only [HXE.out]; rfl, HBF.out.1, fun g hg => hof g (by omega), HBF.out.2⟩
        · have hPb : ¬ P < (b.length : Int) := by omega
          have hkk : k ≤ 11 := by omega
          clear hgo2
          by_cases hc : rc = 0
          · subst hc
            have hE : (37, q) = A := by rw [← HF.out, if_neg hPe, if_neg (by simp)]
            subst hE
            obtain ⟨X, hXe⟩ : ∃ X, q.x.ofV v = X := ⟨_, rfl⟩
            have HXE : Hid (q.x.ofV v = X) := hXe
            rw [hXe] at hbx
            clear hXe HF hPe
            go_wp2_with fail
            refine (HR1.out _ hbel).mono ?_
            rintro e w2 ⟨rfl, rfl⟩
            have HTH : Hid (wr.there w.heap.size 0 12) := hbz.there
            have HBF : Hid (Bs (wr.setCells w.heap.size 0 [.int .i64 X.v, .int .i64 X.k, .int .i64 X.s, .int .i64 X.p, .int .i64 X.t, .int .i64 X.a, .int .i64 X.l, .int .i64 X.c, .int .i64 X.n, .int .i64 X.i, .string (bstr q.nm), .slice aq q.l.length cq]) (.slice aq q.l.length cq) (q.l) ∧ Below w.heap.size w (wr.setCells w.heap.size 0 [.int .i64 X.v, .int .i64 X.k, .int .i64 X.s, .int .i64 X.p, .int .i64 X.t, .int .i64 X.a, .int .i64 X.l, .int .i64 X.c, .int .i64 X.n, .int .i64 X.i, .string (bstr q.nm), .slice aq q.l.length cq])) := ⟨bs_offB hbq _ _ _ (hof _ (by omega)), below_cells (Nat.le_refl _) _ 0 _ hbel⟩
            obtain ⟨m0, m1, m2, m3, m4, m5, m6, m7, m8, m9, m10, m11⟩ := hbx.cells
            obtain ⟨z0, z1, z2, z3, z4, z5, z6, z7, z8, z9, z10, z11⟩ := hbz.cells
            have f0 := hbz.free' 0
            have f1 := hbz.free' 1
            have f2 := hbz.free' 2
            have f3 := hbz.free' 3
            have f4 := hbz.free' 4
            have f5 := hbz.free' 5
            have f6 := hbz.free' 6
            have f7 := hbz.free' 7
            have f8 := hbz.free' 8
            have f9 := hbz.free' 9
            have f10 := hbz.free' 10
            have f11 := hbz.free' 11
            clear hbx hbz hbq hbel
            go_wp2
            have HRG := World.rangeAt_setCells_same wr w.heap.size 0 [.int .i64 X.v, .int .i64 X.k, .int .i64 X.s, .int .i64 X.p, .int .i64 X.t, .int .i64 X.a, .int .i64 X.l, .int .i64 X.c, .int .i64 X.n, .int .i64 X.i, .string (bstr q.nm), .slice aq q.l.length cq] HTH.out
            refine bodyPost_ret (results_cell_slot (p := 4) (s := 5) (ty := 24) rfl _ _ w.heap.size [.int .i64 X.v, .int .i64 X.k, .int .i64 X.s, .int .i64 X.p, .int .i64 X.t, .int .i64 X.a, .int .i64 X.l, .int .i64 X.c, .int .i64 X.n, .int .i64 X.i, .string (bstr q.nm), .slice aq q.l.length cq] _ rfl HRG Tryd.underlying24 rfl HIR.out) rfl ?_
            exact ⟨_, _, by simp only [HXE.out]; rfl, HBF.out.1, fun g hg => hof g (by omega), HBF.out.2⟩
          · have hE : (rc, q) = A := by rw [← HF.out, if_neg hPe, if_pos hc]
            subst hE
            have de : ((rc : Int) != 0) = true := by rw [bne_iff_ne]; omega
            obtain ⟨X, hXe⟩ : ∃ X, q.x.ofV v = X := ⟨_, rfl⟩
            have HXE : Hid (q.x.ofV v = X) := hXe
            rw [hXe] at hbx
            clear hXe HF hPe hc
            go_wp2_with fail
            refine (HR1.out _ hbel).mono ?_
            rintro e w2 ⟨rfl, rfl⟩
            have HTH : Hid (wr.there w.heap.size 0 12) := hbz.there
            have HBF : Hid (Bs (wr.setCells w.heap.size 0 [.int .i64 X.v, .int .i64 X.k, .int .i64 X.s, .int .i64 X.p, .int .i64 X.t, .int .i64 X.a, .int .i64 X.l, .int .i64 X.c, .int .i64 X.n, .int .i64 X.i, .string (bstr q.nm), .slice aq q.l.length cq]) (.slice aq q.l.length cq) (q.l) ∧ Below w.heap.size w (wr.setCells w.heap.size 0 [.int .i64 X.v, .int .i64 X.k, .int .i64 X.s, .int .i64 X.p, .int .i64 X.t, .int .i64 X.a, .int .i64 X.l, .int .i64 X.c, .int .i64 X.n, .int .i64 X.i, .string (bstr q.nm), .slice aq q.l.length cq])) := ⟨bs_offB hbq _ _ _ (hof _ (by omega)), below_cells (Nat.le_refl _) _ 0 _ hbel⟩
            obtain ⟨m0, m1, m2, m3, m4, m5, m6, m7, m8, m9, m10, m11⟩ := hbx.cells
            obtain ⟨z0, z1, z2, z3, z4, z5, z6, z7, z8, z9, z10, z11⟩ := hbz.cells
            have f0 := hbz.free' 0
            have f1 := hbz.free' 1
            have f2 := hbz.free' 2
            have f3 := hbz.free' 3
            have f4 := hbz.free' 4
            have f5 := hbz.free' 5
            have f6 := hbz.free' 6
            have f7 := hbz.free' 7
            have f8 := hbz.free' 8
            have f9 := hbz.free' 9
            have f10 := hbz.free' 10
            have f11 := hbz.free' 11
            clear hbx hbz hbq hbel
            go_wp2
            have HRG := World.rangeAt_setCells_same wr w.heap.size 0 [.int .i64 X.v, .int .i64 X.k, .int .i64 X.s, .int .i64 X.p, .int .i64 X.t, .int .i64 X.a, .int .i64 X.l, .int .i64 X.c, .int .i64 X.n, .int .i64 X.i, .string (bstr q.nm), .slice aq q.l.length cq] HTH.out
            refine bodyPost_ret (results_cell_slot (p := 4) (s := 5) (ty := 24) rfl _ _ w.heap.size [.int .i64 X.v, .int .i64 X.k, .int .i64 X.s, .int .i64 X.p, .int .i64 X.t, .int .i64 X.a, .int .i64 X.l, .int .i64 X.c, .int .i64 X.n, .int .i64 X.i, .string (bstr q.nm), .slice aq q.l.length cq] _ rfl HRG Tryd.underlying24 rfl HIR.out) rfl ?_
            exact ⟨_, _, by simp only [HXE.out]; rfl, HBF.out.1, fun g hg => hof g (by omega), HBF.out.2⟩
end Go.Proofs.YtfkpdmmgjgchjaaDoor
