/-
  RecordOneWay: the law's walk.
-/
import Derived.Test.YtioghecmnggehaaDoorReE
import Derived.Test.YtioghecmnggehaaDoorReL
namespace Go.Proofs.YtioghecmnggehaaDoor
open Go Go.RowKit
open Wb

theorem copied_any (v : Value) (l : List Nat) (w : World) (h : Bs w v l) (hlen : l.length ≤ 140737488355328) :
    Calls Tryd.prog 17 #[v] w fun e w' => ∃ v', e = .returned v' ∧ Own w.heap.size w' v' l ∧ Below w.heap.size w w' := by
  have hin := info5
  have HB : Hid (Bs w v l) := h
  obtain ⟨ao, cap, rfl, _⟩ := h.shape
  clear h
  go_enter Tryd.func17, Tryd.ntmps17
  go_wp2_with (at_builtin; refine wpList_append _ rfl (.tmp 4) (.tmp 5) 22 rfl w.heap.size hin Tryd.underlying22 _ [] rfl (Own.nil _ _) _ l rfl HB.out (by simp; omega) (Nat.le_refl _) ?_)
  intro v' w' ho hb _
  have HO : Hid (Own w.heap.size w' v' l ∧ Below w.heap.size w w') := ⟨ho, hb⟩
  clear ho hb
  go_wp2
  go_ret
  exact ⟨_, rfl, HO.out.1, HO.out.2⟩
set_option maxRecDepth 100000 in
set_option maxHeartbeats 1000000 in
theorem empty_any (d : Value) (w : World) (h : Bs w d []) :
    Calls Tryd.prog 18 #[rv zeroNums ⟨#[]⟩ d] w fun e w' => e = .returned (.bool true) ∧ Below w.heap.size w w' := by
  have HX : Hid (∀ o, Below w.heap.size w (w.alloc o)) := fun o => up0 w o
  have HE : Hid (∀ w', Below w.heap.size w w' → Calls Tryd.prog 9 #[rv zeroNums ⟨#[]⟩ d, rv (zeroNums.ofV 0) ⟨#[]⟩ (.slice none 0 0)] w' fun e w'' => e = .returned (.bool true) ∧ Below w'.heap.size w' w'') := fun w' hb => equal_later zeroNums 0 ⟨#[]⟩ d (.slice none 0 0) [] w' (h.kept hb) (Bs.nil w')
  obtain ⟨ao, cap, rfl, _⟩ := h.shape
  clear h
  unfold rv zeroNums Nums.ofV at *
  go_enter Tryd.func18, Tryd.ntmps18
  go_wp2_with fail
  refine (HE.out _ (HX.out _)).mono ?_
  rintro e w1 ⟨rfl, b1⟩
  have B1 := andThen (HX.out _) b1
  clear b1
  go_wp2
  go_ret
  exact ⟨rfl, B1⟩
theorem dcd_err (v : Int) (b : List Nat) (er : Int) (q : Pts) (h : dcd v b = (er, q)) (he : er ≠ 0) : q = zeroPts := by
  unfold dcd at h
  split at h
  · exact (Prod.mk.inj h).2.symm
  · split at h
    · exact (Prod.mk.inj h).2.symm
    · split at h
      · exact (Prod.mk.inj h).2.symm
      · exact absurd (Prod.mk.inj h).1.symm he
set_option maxRecDepth 100000 in
set_option maxHeartbeats 4000000 in
theorem oneway_any (v : Int) (bv : Value) (b : List Nat) (w : World) (h : Bs w bv b) (hlen : b.length ≤ 140737488355328) (hT : Text.TabP 1 .i32 Text.Tx.lets w) (hG : TagsT w) :
    Calls Tryd.prog 6 #[.int .i64 v, bv] w fun e w' => e = .returned (.bool true) ∧ Below w.heap.size w w' := by
  have HST : Hid (∀ w', Below w.heap.size w w' → Calls Tryd.prog 10 #[] w' fun e w'' => e = .returned (.bool true) ∧ Below w'.heap.size w' w'') := fun w' hb => started_any w' (hT.kept hb) (hG.kept hb)
  have HCP : Hid (∀ w', Below w.heap.size w w' → Calls Tryd.prog 17 #[bv] w' fun e w'' => ∃ v', e = .returned v' ∧ Own w'.heap.size w'' v' b ∧ Below w'.heap.size w' w'') := fun w' hb => copied_any bv b w' (h.kept hb) hlen
  obtain ⟨er, q, hA⟩ : ∃ er q, dcd v b = (er, q) := ⟨_, _, rfl⟩
  have HDE : Hid (∀ v' w', Below w.heap.size w w' → Bs w' v' b → Calls Tryd.prog 7 #[.int .i64 v, v'] w' fun e w'' => ∃ ao, ∃ cap : Nat, e = .returned (.tuple #[rv q.x (bstr q.nm) (.slice ao q.l.length cap), .int .i64 er]) ∧ Bs w'' (.slice ao q.l.length cap) q.l ∧ Below w'.heap.size w' w'') := fun v' w' hb hbs => (decode_any v v' b w' hbs hlen (hT.kept hb) (hG.kept hb) _ hA).mono fun e w'' ⟨ao, cap, he, ho, hb'⟩ => ⟨ao, cap, he, ho.bs, hb'⟩
  have HAL : Hid (∀ v' w', Below w.heap.size w w' → Bs w' v' b → Calls Tryd.prog 14 #[v', bv] w' fun e w'' => e = .returned (.bool true) ∧ Below w'.heap.size w' w'') := fun v' w' hb hbs => (same_any v' bv b b w' hbs (h.kept hb)).mono fun e w'' ⟨he, hk⟩ => ⟨by rw [he]; simp, hk⟩
  by_cases her : er = 0
  · subst her
    obtain ⟨hs, hqv, henc, hc⟩ := dcd_inv v b h.good q hA
    obtain ⟨hx, _, _, _, hN⟩ := chk_nice q.x (bstr q.nm) q.l hc hs.1
    obtain ⟨hn, hl⟩ := chk_fits q.x (bstr q.nm) q.l hN
    have HEN : Hid (∀ d w', Below w.heap.size w w' → Bs w' d q.l → Calls Tryd.prog 13 #[rv q.x (bstr q.nm) d] w' fun e w'' => ∃ ao, ∃ cap : Nat, e = .returned (.tuple #[.slice ao b.length cap, .int .i64 0]) ∧ Bs w'' (.slice ao b.length cap) b ∧ Below w'.heap.size w' w'') := fun d w' hb hbs => (encode_ok q.x (bstr q.nm) d q.l w' hbs (hT.kept hb) (hG.kept hb) (by omega) hl hx hc).mono fun e w'' ⟨ao, cap, he, ho, hb'⟩ => by
      rw [henc] at he ho
      exact ⟨ao, cap, he, ho.bs, hb'⟩
    have HCK : Hid (∀ d w', Below w.heap.size w w' → Bs w' d q.l → Calls Tryd.prog 11 #[rv q.x (bstr q.nm) d] w' fun e w'' => e = .returned (.int .i64 0) ∧ Below w'.heap.size w' w'') := fun d w' hb hbs => by
      have h1 := check_any q.x (bstr q.nm) d q.l w' hbs (hT.kept hb) (hG.kept hb) (by omega)
      rwa [hc] at h1
    have dv : (q.x.v == v) = true := by rw [hqv]; exact beq_self_eq_true _
    obtain ⟨ao, cap, rfl, _⟩ := h.shape
    clear h hT hG hc hA hs henc hx hN hn hl hqv
    unfold rv at *
    go_enter Tryd.func6, Tryd.ntmps6
    go_wp2_with fail
    refine (HST.out _ (Below.refl _ _)).mono ?_
    rintro e w1 ⟨rfl, b1⟩
    go_wp2_with fail
    refine (HCP.out _ b1).mono ?_
    rintro e w2 ⟨v2, rfl, ho2, b2⟩
    have B2 := andThen b1 b2
    obtain ⟨ao2, cap2, rfl, _⟩ := ho2.bs.shape
    have hbs2 := ho2.bs
    clear b1 b2 ho2 HST HCP
    go_wp2_with fail
    refine (HDE.out _ _ B2 hbs2).mono ?_
    rintro e w3 ⟨ao3, cap3, rfl, hbs3, b3⟩
    have HW : Hid (Box (w3.alloc (.cells #[.int .i64 q.x.v, .int .i64 q.x.k, .int .i64 q.x.s, .int .i64 q.x.p, .int .i64 q.x.t, .int .i64 q.x.a, .int .i64 q.x.l, .int .i64 q.x.c, .int .i64 q.x.n, .int .i64 q.x.i, .string (bstr q.nm), .slice ao3 q.l.length cap3] 24)) w3.heap.size q.x (bstr q.nm) (.slice ao3 q.l.length cap3) ∧ Bs (w3.alloc (.cells #[.int .i64 q.x.v, .int .i64 q.x.k, .int .i64 q.x.s, .int .i64 q.x.p, .int .i64 q.x.t, .int .i64 q.x.a, .int .i64 q.x.l, .int .i64 q.x.c, .int .i64 q.x.n, .int .i64 q.x.i, .string (bstr q.nm), .slice ao3 q.l.length cap3] 24)) (.slice ao3 q.l.length cap3) q.l ∧ Below w.heap.size w (w3.alloc (.cells #[.int .i64 q.x.v, .int .i64 q.x.k, .int .i64 q.x.s, .int .i64 q.x.p, .int .i64 q.x.t, .int .i64 q.x.a, .int .i64 q.x.l, .int .i64 q.x.c, .int .i64 q.x.n, .int .i64 q.x.i, .string (bstr q.nm), .slice ao3 q.l.length cap3] 24))) := ⟨Array.getElem?_push_size, hbs3.alloc _, up (andThen B2 b3) _⟩
    clear b3 hbs3 hbs2 B2 HDE
    go_wp2_with fail
    refine (errnum_any 0 _).mono ?_
    rintro e w4 ⟨rfl, rfl⟩
    go_wp2_with fail
    have HW' := HW.out
    clear HW
    generalize w3.alloc (.cells #[.int .i64 q.x.v, .int .i64 q.x.k, .int .i64 q.x.s, .int .i64 q.x.p, .int .i64 q.x.t, .int .i64 q.x.a, .int .i64 q.x.l, .int .i64 q.x.c, .int .i64 q.x.n, .int .i64 q.x.i, .string (bstr q.nm), .slice ao3 q.l.length cap3] 24) = W4 at HW' ⊢
    generalize w3.heap.size = g4 at HW' ⊢
    obtain ⟨hbx, hbs, B4⟩ := HW'
    refine (HEN.out _ _ B4 hbs).mono ?_
    rintro e w5 ⟨ao5, cap5, rfl, hbs5, b5⟩
    have hbx5 := hbx.kept b5
    have hd5 := hbs.kept b5
    have B5 := andThen B4 b5
    clear hbx hbs B4 b5 HEN
    go_wp2_with fail
    refine (errnum_any 0 _).mono ?_
    rintro e w6 ⟨rfl, rfl⟩
    obtain ⟨c0, c1, c2, c3, c4, c5, c6, c7, c8, c9, c10, c11⟩ := hbx5.cells
    go_wp2_with fail
    refine (HCK.out _ _ B5 hd5).mono ?_
    rintro e w7 ⟨rfl, b7⟩
    have hbs7 := hbs5.kept b7
    have B7 := andThen B5 b7
    clear c0 c1 c2 c3 c4 c5 c6 c7 c8 c9 c10 c11 hbx5 hd5 hbs5 B5 b7 HCK
    go_wp2_with fail
    refine (errnum_any 0 _).mono ?_
    rintro e w8 ⟨rfl, rfl⟩
    go_wp2_with fail
    refine (HAL.out _ _ B7 hbs7).mono ?_
    rintro e w9 ⟨rfl, b9⟩
    have B9 := andThen B7 b9
    clear b9 hbs7
    go_wp2
    go_ret
    exact ⟨rfl, B9⟩
  · have hq := dcd_err v b er q hA her
    subst hq
    have d1 : (er != 0) = true := by rw [bne_iff_ne]; exact her
    have HEM : Hid (∀ ao (cap : Nat) w', Bs w' (.slice ao 0 cap) [] → Calls Tryd.prog 18 #[rv zeroNums ⟨#[]⟩ (.slice ao 0 cap)] w' fun e w'' => e = .returned (.bool true) ∧ Below w'.heap.size w' w'') := fun ao cap w' hb => empty_any (.slice ao 0 cap) w' hb
    have HDZ : Hid (∀ v' w', Below w.heap.size w w' → Bs w' v' b → Calls Tryd.prog 7 #[.int .i64 v, v'] w' fun e w'' => ∃ ao, ∃ cap : Nat, e = .returned (.tuple #[rv zeroNums ⟨#[]⟩ (.slice ao 0 cap), .int .i64 er]) ∧ Bs w'' (.slice ao 0 cap) [] ∧ Below w'.heap.size w' w'') := HDE.out
    obtain ⟨ao, cap, rfl, _⟩ := h.shape
    clear h hT hG hA her HAL HDE
    unfold rv zeroNums at *
    go_enter Tryd.func6, Tryd.ntmps6
    go_wp2_with fail
    refine (HST.out _ (Below.refl _ _)).mono ?_
    rintro e w1 ⟨rfl, b1⟩
    go_wp2_with fail
    refine (HCP.out _ b1).mono ?_
    rintro e w2 ⟨v2, rfl, ho2, b2⟩
    have B2 := andThen b1 b2
    obtain ⟨ao2, cap2, rfl, _⟩ := ho2.bs.shape
    have hbs2 := ho2.bs
    clear b1 b2 ho2 HST HCP
    go_wp2_with fail
    refine (HDZ.out _ _ B2 hbs2).mono ?_
    rintro e w3 ⟨ao3, cap3, rfl, hbs3, b3⟩
    have HW : Hid (∀ o, Bs (w3.alloc o) (.slice ao3 0 cap3) [] ∧ Below w.heap.size w (w3.alloc o)) := fun o => ⟨hbs3.alloc _, up (andThen B2 b3) _⟩
    clear b3 hbs3 hbs2 B2 HDZ
    go_wp2_with fail
    refine (errnum_any er _).mono ?_
    rintro e w4 ⟨rfl, rfl⟩
    go_wp2_with fail
    refine (HEM.out _ _ _ (HW.out _).1).mono ?_
    rintro e w5 ⟨rfl, b5⟩
    have B5 := andThen (HW.out _).2 b5
    clear b5
    go_wp2
    go_ret
    exact ⟨rfl, B5⟩
end Go.Proofs.YtioghecmnggehaaDoor
