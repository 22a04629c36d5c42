import Derived.Test.YtenhaogheilmoaaDoorQVF
/-
  ArchivePacks: laidRecs: records in new memory, with marks behind the list and behind each one's data.
-/
namespace Go.Proofs.YtenhaogheilmoaaDoor
open Go Go.RowKit
open Wb

/-- append of one record to a row of the call's own: the row alone -/
theorem wpList_append_recO {P : Program} (w : World) {ops : Array Oper} {rest : List Oper} {o : Oper} {a : Act} {Q : Exit → Act → World → Prop} (hgd : o.guard = none) (s x : Operand) (t : TypeId)
    (ho : o.op = .call { callee := .builtin .append, args := #[s, x], argTypes := #[t, t] })
    (B : Nat) (hinfo : (P.info? 44).map (fun i => (i.zero, i.size, i.bytes)) = some (some (.agg #[.int .i64 0, .int .i64 0, .int .i64 0, .int .i64 0, .int .i64 0, .int .i64 0, .int .i64 0, .int .i64 0, .int .i64 0, .int .i64 0, .string ⟨#[]⟩, .slice none 0 0]), 12, 120)) (ht : P.underlying t = some (.slice 44))
    (v : Value) (n : Nat) (cs : List Value) (hv : a.eval s = v) (h : w.ownsRow B 44 12 v n cs) (g m c : Nat) (D : List Value) (hx : a.eval x = .slice (some ⟨g, 0, none⟩) m c)
    (hc : w.rangeAt g 0 D) (hD : D.length = m * 12) (h1 : ∀ u ∈ D, u.oneCell' = true)
    (hmax : (n + m) * 120 ≤ 140737488355328) (hB : B ≤ w.heap.size)
    (hK : ∀ v' w', w'.ownsRow B 44 12 v' (n + m) (cs ++ D) → Below B w w' → w.grownBy w' v.ownBlock → wpList P ops Q rest (a.put o.dst v') w') : wpList P ops Q (o :: rest) a w := by
  obtain ⟨i0, hi, hz0, hz1, hz2⟩ := Lft.info_parts3 hinfo
  obtain ⟨v', w', hrun, h2, h3, _⟩ := run_append_own (P := P) w B t o.type 44 i0 _ 12 120 ht hi hz0 hz1 hz2 rfl (by decide) v n cs h ⟨g, 0, none⟩ m c D hD (fun j u hj => by
    have := hc j u hj
    rw [Addr.add_lit]
    exact this) h1 (by unfold maxLen; omega) (by omega) hB
  refine wpList_plain hgd fun _ hK' => ?_
  unfold Oper.wp
  simp [execOp, ho, resolve, invoke, builtin, hv, hx, hrun, Result.andThen]
  exact hK' _ _ (hK v' w' h2 ((Below.refl B w).grown h3 hB (fun k hk => (World.ownsRow.lt h k hk).1)) h3)
def mrk3 : List Nat := [211, 212, 213]
/-- each record's data, with three marks behind it -/
def Dat3 (B : Nat) (w : World) (ps : List (Rec × Value)) : Prop := ∀ p ∈ ps, ∃ b c, p.2 = .slice (some ⟨b, 0, none⟩) p.1.l.length c ∧ Own B w (.slice (some ⟨b, 0, none⟩) (p.1.l.length + 3) c) (p.1.l ++ mrk3)
theorem Dat3.nil (B : Nat) (w : World) : Dat3 B w [] := fun p hp => by cases hp
theorem Dat3.kept {B : Nat} {w w' : World} {ps : List (Rec × Value)} (h : Dat3 B w ps) (hb : Below w.heap.size w w') : Dat3 B w' ps := fun p hp => by
  obtain ⟨b, c, e, o⟩ := h p hp
  exact ⟨b, c, e, o.kept hb⟩
theorem Dat3.grown {B : Nat} {w w' : World} {ps : List (Rec × Value)} {v : Value} {n : Nat} {cs : List Value} (h : Dat3 B w ps) (hr : w.ownsRow B 44 12 v n cs) (hg : w.grownBy w' v.ownBlock) : Dat3 B w' ps := fun p hp => by
  obtain ⟨b, c, e, o⟩ := h p hp
  refine ⟨b, c, e, own_keptB o fun g e2 => hg.block g (own_block o g e2).2 fun e3 => ?_⟩
  obtain ⟨cs1, z1, h8⟩ := own_typed o g e2
  obtain ⟨cs2, z2, h9⟩ := rrow_typed hr g e3.symm
  rw [h8] at h9
  simp at h9
def mk2 : List Value := [.int .i64 (-201), .int .i64 0, .int .i64 0, .int .i64 0, .int .i64 0, .int .i64 0, .int .i64 0, .int .i64 0, .int .i64 0, .int .i64 0, .string ⟨#[]⟩, .slice none 0 0, .int .i64 (-202), .int .i64 0, .int .i64 0, .int .i64 0, .int .i64 0, .int .i64 0, .int .i64 0, .int .i64 0, .int .i64 0, .int .i64 0, .string ⟨#[]⟩, .slice none 0 0]
/-- what laidRecs makes -/
structure LdR (B : Nat) (w : World) (g c : Nat) (ps : List (Rec × Value)) : Prop where
  row : w.ownsRow B 44 12 (.slice (some ⟨g, 0, none⟩) (ps.length + 2) c) (ps.length + 2) (ps.flatMap rcl ++ mk2)
  dat : Dat3 B w ps
set_option maxRecDepth 100000 in
set_option maxHeartbeats 8000000 in
theorem arlaidr_any (v : Value) (rs : List Rec) (w : World) (h : RecsAt w v rs) (hg : LGood rs) (hn : rs.length ≤ 120) :
    Calls Tryd.prog 6 #[v] w fun e w' => ∃ g c ps, e = .returned (.slice (some ⟨g, 0, none⟩) rs.length c) ∧ LdR w.heap.size w' g c ps ∧ ps.map Prod.fst = rs ∧ Below w.heap.size w w' := by
  have hin := infoR12
  have hin5 := info5
  have HIR : Hid ((Tryd.prog.info? 44).map (·.size) = some 12) := infoRec
  have HGE : Hid (∀ r ∈ rs, r.nm.size ≤ 1048576 ∧ r.x.fit ∧ r.l.length ≤ 1048576) := hg.each
  have HRS : Hid (∀ w', Below w.heap.size w w' → RecsAt w' v rs) := fun w' hb => h.kept hb
  obtain ⟨ao, cap, rfl, hm, _⟩ := h
  unfold maxLen at hm
  clear hg
  go_enter Tryd.func6, Tryd.ntmps6
  go_wp2_with fail
  go_loopw [3, 4] (fun o i wr => ∃ (k : Nat) (ps : List (Rec × Value)), k ≤ rs.length ∧ i = .int .i64 (k : Int) ∧ wr.ownsRow w.heap.size 44 12 o ps.length (ps.flatMap rcl) ∧ Dat3 w.heap.size wr ps ∧ ps.map Prod.fst = rs.take k ∧ Below w.heap.size w wr) (fun _ i _ => rs.length - (intOf i).toNat)
  case atStart => exact ⟨0, [], Nat.zero_le _, rfl, World.ownsRow_nil _ _ _ _, Dat3.nil _ _, rfl, Below.refl _ _⟩
  case round =>
    obtain ⟨k, ps, hk, rfl, hrow, hdat, hmap, hbel⟩ := hrel
    have hpl : ps.length = k := by
      have := congrArg List.length hmap
      simpa [Nat.min_eq_left hk] using this
    have HPL : Hid (ps.length = k) := hpl
    have hn9 : ps.length ≤ 120 := by omega
    clear hpl
    by_cases hlt : k < rs.length
    · obtain ⟨r, hr⟩ : ∃ r, rs[k]? = some r := ⟨rs[k], List.getElem?_eq_getElem hlt⟩
      obtain ⟨ao', cap', e', _, hcr⟩ := HRS.out _ hbel
      simp only [Value.slice.injEq] at e'
      obtain ⟨rfl, _, rfl⟩ := e'
      obtain ⟨b, off, d, rfl, hrg, hbs⟩ := hcr k r hr
      have hnf := HGE.out r (List.mem_of_getElem? hr)
      have HTK : Hid (rs.take (k + 1) = rs.take k ++ [r]) := by show _ = _; rw [List.take_add_one, hr]; rfl
      have HMP : Hid (ps.map Prod.fst = rs.take k ∧ r.l.length ≤ 1048576) := ⟨hmap, hnf.2.2⟩
      obtain ⟨ar, cr, rfl, _⟩ := hbs.shape
      have HR0 : Hid (wr.rangeAt b (off + k * 12) [.int .i64 r.x.v, .int .i64 r.x.k, .int .i64 r.x.s, .int .i64 r.x.p, .int .i64 r.x.t, .int .i64 r.x.a, .int .i64 r.x.l, .int .i64 r.x.c, .int .i64 r.x.n, .int .i64 r.x.i, .string r.nm, .slice ar r.l.length cr]) := hrg
      have HW : Hid (LB (wr.alloc (.cells #[.int .i64 r.x.v, .int .i64 r.x.k, .int .i64 r.x.s, .int .i64 r.x.p, .int .i64 r.x.t, .int .i64 r.x.a, .int .i64 r.x.l, .int .i64 r.x.c, .int .i64 r.x.n, .int .i64 r.x.i, .string r.nm, .slice ar r.l.length cr] 44)) wr.heap.size 44 [.int .i64 r.x.v, .int .i64 r.x.k, .int .i64 r.x.s, .int .i64 r.x.p, .int .i64 r.x.t, .int .i64 r.x.a, .int .i64 r.x.l, .int .i64 r.x.c, .int .i64 r.x.n, .int .i64 r.x.i, .string r.nm, .slice ar r.l.length cr] ∧ Bs (wr.alloc (.cells #[.int .i64 r.x.v, .int .i64 r.x.k, .int .i64 r.x.s, .int .i64 r.x.p, .int .i64 r.x.t, .int .i64 r.x.a, .int .i64 r.x.l, .int .i64 r.x.c, .int .i64 r.x.n, .int .i64 r.x.i, .string r.nm, .slice ar r.l.length cr] 44)) (.slice ar r.l.length cr) r.l ∧ (∀ W, Below wr.heap.size wr W → W.cell? ⟨b, off + k * 12 + 11, none⟩ = some (.slice ar r.l.length cr)) ∧ Below wr.heap.size wr (wr.alloc (.cells #[.int .i64 r.x.v, .int .i64 r.x.k, .int .i64 r.x.s, .int .i64 r.x.p, .int .i64 r.x.t, .int .i64 r.x.a, .int .i64 r.x.l, .int .i64 r.x.c, .int .i64 r.x.n, .int .i64 r.x.i, .string r.nm, .slice ar r.l.length cr] 44)) ∧ (wr.alloc (.cells #[.int .i64 r.x.v, .int .i64 r.x.k, .int .i64 r.x.s, .int .i64 r.x.p, .int .i64 r.x.t, .int .i64 r.x.a, .int .i64 r.x.l, .int .i64 r.x.c, .int .i64 r.x.n, .int .i64 r.x.i, .string r.nm, .slice ar r.l.length cr] 44)).heap.size = wr.heap.size + 1) := ⟨lb_new _ _ _, hbs.alloc _, fun W hW => range_kept hrg hW 11 _ rfl, up0 _ _, by rw [heap_one]⟩
      have HOW : Hid (wr.ownsRow w.heap.size 44 12 u3 ps.length (ps.flatMap rcl) ∧ Dat3 w.heap.size wr ps ∧ Below w.heap.size w wr) := ⟨hrow, hdat, hbel⟩
      clear hcr hrg hbs hrow hdat hbel hnf hmap hr
      go_upto_region 7 with (refine wpList_load_mid rfl 44 _ rfl b (off + k * 12) rfl [.int .i64 r.x.v, .int .i64 r.x.k, .int .i64 r.x.s, .int .i64 r.x.p, .int .i64 r.x.t, .int .i64 r.x.a, .int .i64 r.x.l, .int .i64 r.x.c, .int .i64 r.x.n, .int .i64 r.x.i, .string r.nm, .slice ar r.l.length cr] _ HR0.out Tryd.underlying44 rfl HIR.out ?_)
      obtain ⟨W1, hW1⟩ : ∃ W1, W1 = wr.alloc (.cells #[.int .i64 r.x.v, .int .i64 r.x.k, .int .i64 r.x.s, .int .i64 r.x.p, .int .i64 r.x.t, .int .i64 r.x.a, .int .i64 r.x.l, .int .i64 r.x.c, .int .i64 r.x.n, .int .i64 r.x.i, .string r.nm, .slice ar r.l.length cr] 44) := ⟨_, rfl⟩
      rw [← hW1] at HW ⊢
      clear hW1 HR0
      have y11 := HW.out.1.cell 11 _ rfl
      go_wp2_with (at_builtin; refine wpList_append _ rfl (.tmp 17) (.tmp 19) 25 rfl W1.heap.size hin5 Tryd.underlying25 _ [] rfl (Own.nil _ _) _ r.l rfl HW.out.2.1 (by have := HMP.out.2; simp; omega) (Nat.le_refl _) ?_)
      intro v2 w2 o2 b2 _
      have ⟨a2, c2, m2, e2⟩ : ∃ a2, ∃ c2 m2 : Nat, v2 = .slice a2 m2 c2 := by obtain ⟨a2, c2, e, -⟩ := o2.bs.shape; exact ⟨a2, c2, _, e⟩
      subst e2
      have H2 : Hid (∀ o, Own W1.heap.size (w2.alloc o) (.slice a2 m2 c2) r.l ∧ Below W1.heap.size W1 (w2.alloc o) ∧ W1.heap.size ≤ (w2.alloc o).heap.size) := fun o => ⟨o2.alloc _, up b2 _, (up b2 _).size⟩
      have H2M : Hid (Bs (w2.alloc (.cells #[.int .u8 211, .int .u8 212, .int .u8 213] 5)) (.slice (some ⟨w2.heap.size, 0, none⟩) 3 3) mrk3) := (Own.lit (B := w2.heap.size) w2 mrk3 (by intro x hx; simp [mrk3] at hx; omega) (Nat.le_refl _) (by simp [mrk3, maxLen]) _ rfl).bs
      clear o2 b2 y11
      go_wp2_with (at_builtin; refine wpList_append _ rfl (.tmp 21) (.tmp 22) 25 rfl W1.heap.size hin5 Tryd.underlying25 _ r.l rfl (H2.out _).1 _ mrk3 rfl H2M.out (by have := HMP.out.2; simp [mrk3]; omega) (H2.out _).2.2 ?_)
      intro v4 w4 o4 b4 _
      obtain ⟨b4x, c4, rfl, hb4, hc4⟩ : ∃ b4 c4, v4 = .slice (some ⟨b4, 0, none⟩) (r.l.length + 3) c4 ∧ W1.heap.size ≤ b4 ∧ r.l.length + 3 ≤ c4 := by
        rcases o4.row.2 with ⟨e, h0⟩ | ⟨g9, c9, cur9, e, h1, h2, h3, -⟩
        · simp [mrk3] at h0
        · refine ⟨g9, c9, by rw [e]; simp [mrk3], h1, ?_⟩
          simp [mrk3] at h3
          omega
      have B4 : Below wr.heap.size wr w4 := HW.out.2.2.2.1.trans (((H2.out _).2.1.trans b4).mono (by have := HW.out.2.2.2.2; omega))
      have y9 := HW.out.2.2.1 w4 B4
      have LX4 : LB w4 wr.heap.size 44 [.int .i64 r.x.v, .int .i64 r.x.k, .int .i64 r.x.s, .int .i64 r.x.p, .int .i64 r.x.t, .int .i64 r.x.a, .int .i64 r.x.l, .int .i64 r.x.c, .int .i64 r.x.n, .int .i64 r.x.i, .string r.nm, .slice ar r.l.length cr] := HW.out.1.kept ((H2.out _).2.1.trans b4)
      have x11 := LX4.cell 11 _ rfl
      have f11 := LX4.free 11
      have hsl : ((r.l.length : Int) ≤ (c4 : Int)) = True := by simp only [eq_iff_iff, iff_true]; omega
      have HV : Hid (∃ W5, W5 = w4.setCell ⟨wr.heap.size, 11, none⟩ (.slice (some ⟨b4x, 0, none⟩) r.l.length c4) ∧ LB W5 wr.heap.size 44 [.int .i64 r.x.v, .int .i64 r.x.k, .int .i64 r.x.s, .int .i64 r.x.p, .int .i64 r.x.t, .int .i64 r.x.a, .int .i64 r.x.l, .int .i64 r.x.c, .int .i64 r.x.n, .int .i64 r.x.i, .string r.nm, .slice (some ⟨b4x, 0, none⟩) r.l.length c4] ∧ Own w.heap.size W5 (.slice (some ⟨b4x, 0, none⟩) (r.l.length + 3) c4) (r.l ++ mrk3) ∧ Below wr.heap.size wr W5 ∧ wr.heap.size ≤ W5.heap.size) := by
        have hsz := HW.out.2.2.2.2
        have hwr := HOW.out.2.2.size
        refine ⟨_, rfl, LX4.set 11 _, own_weak (own_keptB o4 fun g e => set_other _ _ _ _ ?_) (by omega), Below.setCell B4 (Nat.le_refl _) _, (Below.setCell B4 (Nat.le_refl _) _).size⟩
        have := (own_block o4 g e).1
        show g ≠ wr.heap.size
        omega
      clear o4 b4 hb4 hc4 B4 LX4 H2 H2M HW
      go_upto_region 10 with fail
      obtain ⟨W5, hW5, l5, o5, b5, s5⟩ := HV.out
      rw [← hW5]
      have H5 : Hid (W5.rangeAt wr.heap.size 0 [.int .i64 r.x.v, .int .i64 r.x.k, .int .i64 r.x.s, .int .i64 r.x.p, .int .i64 r.x.t, .int .i64 r.x.a, .int .i64 r.x.l, .int .i64 r.x.c, .int .i64 r.x.n, .int .i64 r.x.i, .string r.nm, .slice (some ⟨b4x, 0, none⟩) r.l.length c4] ∧ W5.ownsRow w.heap.size 44 12 u3 ps.length (ps.flatMap rcl) ∧ Dat3 w.heap.size W5 (ps ++ [(r, Value.slice (some ⟨b4x, 0, none⟩) r.l.length c4)]) ∧ Below w.heap.size w W5) := ⟨l5.range, ownsRec_kept HOW.out.1 b5, fun p hp => by
        rcases List.mem_append.1 hp with hp | hp
        · exact (HOW.out.2.1.kept b5) p hp
        · obtain rfl := List.mem_singleton.1 hp
          exact ⟨b4x, c4, rfl, o5⟩, andThen HOW.out.2.2 b5⟩
      have H6 : Hid ((W5.alloc (.cells #[.int .i64 r.x.v, .int .i64 r.x.k, .int .i64 r.x.s, .int .i64 r.x.p, .int .i64 r.x.t, .int .i64 r.x.a, .int .i64 r.x.l, .int .i64 r.x.c, .int .i64 r.x.n, .int .i64 r.x.i, .string r.nm, .slice (some ⟨b4x, 0, none⟩) r.l.length c4] 44)).ownsRow w.heap.size 44 12 u3 ps.length (ps.flatMap rcl) ∧ (W5.alloc (.cells #[.int .i64 r.x.v, .int .i64 r.x.k, .int .i64 r.x.s, .int .i64 r.x.p, .int .i64 r.x.t, .int .i64 r.x.a, .int .i64 r.x.l, .int .i64 r.x.c, .int .i64 r.x.n, .int .i64 r.x.i, .string r.nm, .slice (some ⟨b4x, 0, none⟩) r.l.length c4] 44)).rangeAt W5.heap.size 0 [.int .i64 r.x.v, .int .i64 r.x.k, .int .i64 r.x.s, .int .i64 r.x.p, .int .i64 r.x.t, .int .i64 r.x.a, .int .i64 r.x.l, .int .i64 r.x.c, .int .i64 r.x.n, .int .i64 r.x.i, .string r.nm, .slice (some ⟨b4x, 0, none⟩) r.l.length c4] ∧ w.heap.size ≤ (W5.alloc (.cells #[.int .i64 r.x.v, .int .i64 r.x.k, .int .i64 r.x.s, .int .i64 r.x.p, .int .i64 r.x.t, .int .i64 r.x.a, .int .i64 r.x.l, .int .i64 r.x.c, .int .i64 r.x.n, .int .i64 r.x.i, .string r.nm, .slice (some ⟨b4x, 0, none⟩) r.l.length c4] 44)).heap.size) := ⟨ownsRec_kept H5.out.2.1 (up0 _ _), (lb_new W5 [.int .i64 r.x.v, .int .i64 r.x.k, .int .i64 r.x.s, .int .i64 r.x.p, .int .i64 r.x.t, .int .i64 r.x.a, .int .i64 r.x.l, .int .i64 r.x.c, .int .i64 r.x.n, .int .i64 r.x.i, .string r.nm, .slice (some ⟨b4x, 0, none⟩) r.l.length c4] 44).range, (up H5.out.2.2.2 _).size⟩
      clear hW5 l5 o5 b5 s5 HV HOW x11 f11 y9 hsl
      go_wp2_with (first
        | (refine wpList_load_mid rfl 44 _ rfl wr.heap.size 0 rfl [.int .i64 r.x.v, .int .i64 r.x.k, .int .i64 r.x.s, .int .i64 r.x.p, .int .i64 r.x.t, .int .i64 r.x.a, .int .i64 r.x.l, .int .i64 r.x.c, .int .i64 r.x.n, .int .i64 r.x.i, .string r.nm, .slice (some ⟨b4x, 0, none⟩) r.l.length c4] _ H5.out.1 Tryd.underlying44 rfl HIR.out ?_)
        | (at_builtin; refine wpList_append_recO _ rfl (.tmp 33) (.tmp 35) 22 rfl w.heap.size hin Tryd.underlying22 _ ps.length (ps.flatMap rcl) rfl H6.out.1 W5.heap.size 1 1 [.int .i64 r.x.v, .int .i64 r.x.k, .int .i64 r.x.s, .int .i64 r.x.p, .int .i64 r.x.t, .int .i64 r.x.a, .int .i64 r.x.l, .int .i64 r.x.c, .int .i64 r.x.n, .int .i64 r.x.i, .string r.nm, .slice (some ⟨b4x, 0, none⟩) r.l.length c4] rfl H6.out.2.1 rfl (by intro u hu; simp only [List.mem_cons, List.not_mem_nil, or_false] at hu; rcases hu with rfl | rfl | rfl | rfl | rfl | rfl | rfl | rfl | rfl | rfl | rfl | rfl <;> rfl) (by omega) H6.out.2.2 ?_))
      intro v7 w7 r7 b7 g7
      have R7 : Hid (w7.ownsRow w.heap.size 44 12 v7 (ps ++ [(r, Value.slice (some ⟨b4x, 0, none⟩) r.l.length c4)]).length ((ps ++ [(r, Value.slice (some ⟨b4x, 0, none⟩) r.l.length c4)]).flatMap rcl) ∧ Dat3 w.heap.size w7 (ps ++ [(r, Value.slice (some ⟨b4x, 0, none⟩) r.l.length c4)]) ∧ Below w.heap.size w w7) := ⟨by rw [List.length_append, List.flatMap_append, List.flatMap_singleton]; exact r7, (H5.out.2.2.1.kept (up0 _ _)).grown H6.out.1 g7, (up H5.out.2.2.2 _).trans b7⟩
      clear r7 b7 g7 H5 H6
      go_wp2_with fail
      go_roundw
      case rel => exact ⟨k + 1, ps ++ [(r, Value.slice (some ⟨b4x, 0, none⟩) r.l.length c4)], by omega, by go_num, R7.out.1, R7.out.2.1, by rw [HTK.out, List.map_append, HMP.out.1]; rfl, R7.out.2.2⟩
      case measure => simp [intOf]; omega
    · obtain rfl : k = rs.length := by omega
      rw [List.take_length] at hmap
      have HOW : Hid (∀ o, (wr.alloc o).ownsRow w.heap.size 44 12 u3 ps.length (ps.flatMap rcl) ∧ Dat3 w.heap.size (wr.alloc o) ps ∧ Below w.heap.size w (wr.alloc o) ∧ w.heap.size ≤ (wr.alloc o).heap.size) := fun o => ⟨ownsRec_kept hrow (up0 _ _), hdat.kept (up0 _ _), up hbel _, (up hbel _).size⟩
      have HR6 : Hid ((wr.alloc (.cells mk2.toArray 44)).rangeAt wr.heap.size 0 mk2) := (lb_new wr mk2 44).range
      have HMP : Hid (ps.map Prod.fst = rs) := hmap
      unfold mk2 at HR6
      clear hrow hdat hbel hmap
      go_wp2_with (at_builtin; refine wpList_append_recO _ rfl (.tmp 37) (.tmp 40) 22 rfl w.heap.size hin Tryd.underlying22 _ ps.length (ps.flatMap rcl) rfl (HOW.out _).1 wr.heap.size 2 2 _ rfl HR6.out rfl (by intro u hu; simp only [List.mem_cons, List.not_mem_nil, or_false] at hu; rcases hu with rfl | rfl | rfl | rfl | rfl | rfl | rfl | rfl | rfl | rfl | rfl | rfl | rfl | rfl | rfl | rfl | rfl | rfl | rfl | rfl | rfl | rfl | rfl | rfl <;> rfl) (by omega) (HOW.out _).2.2.2 ?_)
      intro v7 w7 r7 b7 g7
      have hd7 := (HOW.out _).2.1.grown (HOW.out _).1 g7
      obtain ⟨g8, c8, rfl, hc8⟩ : ∃ g8 c8, v7 = .slice (some ⟨g8, 0, none⟩) (ps.length + 2) c8 ∧ ps.length + 2 ≤ c8 := by
        rcases r7.2 with ⟨e, h0⟩ | ⟨g9, c9, cur9, e, h1, h2, h3, -⟩
        · omega
        · exact ⟨g9, c9, e, h3⟩
      have R7 : Hid (LdR w.heap.size w7 g8 c8 ps ∧ Below w.heap.size w w7) := ⟨⟨r7, hd7⟩, (HOW.out _).2.2.1.trans b7⟩
      have hsl : ((rs.length : Int) ≤ (c8 : Int)) = True := by have := HPL.out; simp only [eq_iff_iff, iff_true]; omega
      clear r7 b7 g7 hd7 HOW HR6
      go_wp2_with fail
      go_ret
      exact ⟨g8, c8, ps, rfl, R7.out.1, HMP.out, R7.out.2⟩
end Go.Proofs.YtenhaogheilmoaaDoor

/-
  ArchivePacks: intactRecs.
-/
namespace Go.Proofs.YtenhaogheilmoaaDoor
open Go Go.RowKit
open Wb

def zR1 : Rec := ⟨{ zeroNums with v := -201 }, ⟨#[]⟩, []⟩
def zR2 : Rec := ⟨{ zeroNums with v := -202 }, ⟨#[]⟩, []⟩
theorem Dat3.one {B : Nat} {w : World} {ps : List (Rec × Value)} (h : Dat3 B w ps) {p : Rec × Value} (hp : p ∈ ps) : Own B w p.2 p.1.l ∨ Bs w p.2 p.1.l := by
  obtain ⟨b, c, e, o⟩ := h p hp
  refine .inr ?_
  have hb := o.bs
  have hl : (p.1.l ++ mrk3).length = p.1.l.length + 3 := by simp [mrk3]
  rw [← hl] at hb
  have e2 := bs_take hb p.1.l.length (by omega)
  rw [List.take_left] at e2
  rw [e]
  exact e2
theorem Dat3.bs {B : Nat} {w : World} {ps : List (Rec × Value)} (h : Dat3 B w ps) {p : Rec × Value} (hp : p ∈ ps) : Bs w p.2 p.1.l := by
  rcases h.one hp with o | b
  · exact o.bs
  · exact b
theorem LdR.kept {B : Nat} {w w' : World} {g c : Nat} {ps : List (Rec × Value)} (h : LdR B w g c ps) (hb : Below w.heap.size w w') : LdR B w' g c ps := ⟨ownsRec_kept h.row hb, h.dat.kept hb⟩
theorem LdR.all {B : Nat} {w : World} {g c : Nat} {ps : List (Rec × Value)} (h : LdR B w g c ps) : RecsAt w (.slice (some ⟨g, 0, none⟩) (ps.length + 2) c) (ps.map Prod.fst ++ [zR1, zR2]) := by
  have ho : Outs B w (.slice (some ⟨g, 0, none⟩) (ps.length + 2) c) (ps ++ [(zR1, .slice none 0 0), (zR2, .slice none 0 0)]) := by
    refine ⟨?_, fun p hp => ?_⟩
    · have e : (ps ++ [(zR1, Value.slice none 0 0), (zR2, Value.slice none 0 0)]).flatMap rcl = ps.flatMap rcl ++ mk2 := by
        rw [List.flatMap_append]
        rfl
      rw [e, List.length_append]
      exact h.row
    · rcases List.mem_append.1 hp with hp | hp
      · refine ⟨h.dat.bs hp, fun g' e => ?_⟩
        obtain ⟨b, c', e2, o⟩ := h.dat p hp
        intro hne b' off n cap e3 hb
        subst hb
        rw [e2] at e3
        simp only [Value.slice.injEq, Option.some.injEq, Addr.mk.injEq] at e3
        obtain ⟨⟨rfl, -⟩, -⟩ := e3
        obtain ⟨cs1, z1, h8⟩ := own_typed o b rfl
        obtain ⟨cs2, z2, h9⟩ := rrow_typed h.row b e
        rw [h8] at h9
        simp at h9
      · have hn : p.1.l = [] ∧ p.2 = .slice none 0 0 := by
          simp only [List.mem_cons, List.not_mem_nil, or_false] at hp
          rcases hp with rfl | rfl <;> exact ⟨rfl, rfl⟩
        rw [hn.1, hn.2]
        exact ⟨Bs.nil _, fun _ _ hne => absurd rfl hne⟩
  have e := ho.recsAt
  rw [List.map_append] at e
  exact e
theorem LdR.recs {B : Nat} {w : World} {g c : Nat} {ps : List (Rec × Value)} (h : LdR B w g c ps) : RecsAt w (.slice (some ⟨g, 0, none⟩) ps.length c) (ps.map Prod.fst) := by
  have hl : (ps.map Prod.fst ++ [zR1, zR2]).length = ps.length + 2 := by simp
  have e := h.all
  rw [← hl] at e
  have e2 := recsAt_take e ps.length (by omega)
  rw [List.take_left' (by simp)] at e2
  exact e2
theorem LdR.cap {B : Nat} {w : World} {g c : Nat} {ps : List (Rec × Value)} (h : LdR B w g c ps) : ps.length + 2 ≤ c ∧ c ≤ maxLen := by
  rcases h.row.2 with ⟨e, h0⟩ | ⟨g9, c9, cur9, e, h1, h2, h3, h4, -⟩
  · omega
  · simp only [Value.slice.injEq] at e
    obtain ⟨-, -, rfl⟩ := e
    exact ⟨h3, h4⟩
theorem LdR.range {B : Nat} {w : World} {g c : Nat} {ps : List (Rec × Value)} (h : LdR B w g c ps) (j : Nat) (u : Value) (hu : (ps.flatMap rcl ++ mk2)[j]? = some u) : w.cell? ⟨g, j, none⟩ = some u := by
  have hl : (ps.flatMap rcl ++ mk2).length = (ps.length + 2) * 12 := by rw [List.length_append, rcls_len]; simp [mk2]; omega
  have hj := (List.getElem?_eq_some_iff.1 hu).1
  have e := World.ownsRow.cellAt h.row j (by omega)
  rw [e]
  exact hu
set_option maxRecDepth 100000 in
set_option maxHeartbeats 8000000 in
theorem arintr_any (B g c : Nat) (ps : List (Rec × Value)) (v : Value) (w : World) (h : LdR B w g c ps) (hr : RecsAt w v (ps.map Prod.fst)) (hn : ps.length ≤ 120) :
    Calls Tryd.prog 10 #[.slice (some ⟨g, 0, none⟩) ps.length c, v] w fun e w' => e = .returned (.bool true) ∧ Below w.heap.size w w' := by
  have HSA : Hid (Calls Tryd.prog 25 #[.slice (some ⟨g, 0, none⟩) ps.length c, v] w fun e w' => e = .returned (.bool true) ∧ Below w.heap.size w w') := sameAll3_ok _ _ _ w h.recs hr
  have HL : Hid (∀ W, Below w.heap.size w W → LdR B W g c ps ∧ RecsAt W v (ps.map Prod.fst)) := fun W hW => ⟨h.kept hW, hr.kept hW⟩
  obtain ⟨hc1, hc2⟩ := h.cap
  unfold maxLen at hc2
  obtain ⟨av, cv, rfl, -, -⟩ := id hr
  rw [List.length_map] at *
  clear h hr
  go_enter Tryd.func10, Tryd.ntmps10
  go_wp2_with fail
  refine HSA.out.mono ?_
  rintro e w1 ⟨rfl, b1⟩
  have HB1 : Hid (Below w.heap.size w w1) := b1
  clear b1 HSA
  go_wp2_with fail
  go_loopw [5] (fun i wr => ∃ k : Nat, k ≤ ps.length ∧ i = .int .i64 (k : Int) ∧ w1 = wr) (fun i _ => ps.length - (intOf i).toNat)
  case atStart => exact ⟨0, Nat.zero_le _, rfl, rfl⟩
  case round =>
    obtain ⟨k, hk, rfl, rfl⟩ := hrel
    by_cases hlt : k < ps.length
    · obtain ⟨p, hp⟩ : ∃ p, ps[k]? = some p := ⟨ps[k], List.getElem?_eq_getElem hlt⟩
      obtain ⟨hld, hrc⟩ := HL.out _ HB1.out
      obtain ⟨ao', cap', e', _, hcr⟩ := hrc
      simp only [Value.slice.injEq] at e'
      obtain ⟨rfl, -, rfl⟩ := e'
      obtain ⟨b, off, d, rfl, hrg, hbs⟩ := hcr k p.1 (by rw [List.getElem?_map, hp]; rfl)
      obtain ⟨ar, cr, rfl, hr1, hr2, -⟩ := hbs.shape
      have q1 : w1.cell? ⟨b, off + k * 12 + 11, none⟩ = some (.slice ar p.1.l.length cr) := hrg 11 _ rfl
      obtain ⟨b3, c3, e3, o3⟩ := hld.dat p (List.mem_of_getElem? hp)
      have q2 : w1.cell? ⟨g, k * 12 + 11, none⟩ = some (.slice (some ⟨b3, 0, none⟩) p.1.l.length c3) := by
        refine hld.range _ _ ?_
        rw [List.getElem?_append_left (by rw [rcls_len]; omega), rcls_get ps k hlt 11 (by omega), (List.getElem?_eq_some_iff.1 hp).2, ← e3]
        rfl
      obtain ⟨a9, c9, e9, h91, h92, -, hc9⟩ := o3.bs.shape
      obtain ⟨b9, o9, e8, hcell⟩ := hc9 (by simp [mrk3])
      have hl3 : (p.1.l ++ mrk3).length = p.1.l.length + 3 := by simp [mrk3]
      simp only [Value.slice.injEq] at e9
      obtain ⟨e7, -, rfl⟩ := e9
      rw [e8] at e7
      simp only [Option.some.injEq, Addr.mk.injEq, and_true] at e7
      obtain ⟨rfl, rfl⟩ := e7
      have q3 : w1.cell? ⟨b3, p.1.l.length, none⟩ = some (.int .u8 211) := by
        have e := hcell p.1.l.length (by omega)
        rw [List.getElem_append_right (by omega)] at e
        simpa [mrk3] using e
      have q4 : w1.cell? ⟨b3, p.1.l.length + 1, none⟩ = some (.int .u8 212) := by
        have e := hcell (p.1.l.length + 1) (by omega)
        rw [List.getElem_append_right (by omega)] at e
        simpa [mrk3] using e
      have q5 : w1.cell? ⟨b3, p.1.l.length + 2, none⟩ = some (.int .u8 213) := by
        have e := hcell (p.1.l.length + 2) (by omega)
        rw [List.getElem_append_right (by omega)] at e
        simpa [mrk3] using e
      unfold maxLen at h92
      have hs3 : ((p.1.l.length : Int) + 3 ≤ (c3 : Int)) = True := by simp only [eq_iff_iff, iff_true]; omega
      have hnb : p.1.l.length + 3 ≤ c3 := by omega
      have hnc : c3 ≤ 9223372036854775807 := by omega
      generalize p.1.l.length = n at *
      clear hld hcr hrg hbs o3 hcell hc9 hl3 h91 hp e3
      go_wp2_with fail
      go_roundw
      case rel => exact ⟨k + 1, by omega, by go_num, by first | rfl | trivial⟩
      case measure => simp [intOf]; omega
    · obtain rfl : k = ps.length := by omega
      obtain ⟨hld, -⟩ := HL.out _ HB1.out
      have hml : ∀ j, j < 24 → (ps.flatMap rcl ++ mk2)[ps.length * 12 + j]? = mk2[j]? := fun j _ => by
        rw [List.getElem?_append_right (by rw [rcls_len]; omega), rcls_len]
        congr 1
        omega
      have q1 : w1.cell? ⟨g, ps.length * 12, none⟩ = some (.int .i64 (-201)) := hld.range _ _ (by have e := hml 0 (by omega); rw [Nat.add_zero] at e; rw [e]; rfl)
      have q2 : w1.cell? ⟨g, ps.length * 12 + 1, none⟩ = some (.int .i64 0) := hld.range _ _ (by rw [hml 1 (by omega)]; rfl)
      have q3 : w1.cell? ⟨g, (ps.length + 1) * 12, none⟩ = some (.int .i64 (-202)) := hld.range _ _ (by rw [show (ps.length + 1) * 12 = ps.length * 12 + 12 by omega, hml 12 (by omega)]; rfl)
      have q4 : w1.cell? ⟨g, (ps.length + 1) * 12 + 1, none⟩ = some (.int .i64 0) := hld.range _ _ (by rw [show (ps.length + 1) * 12 + 1 = ps.length * 12 + 13 by omega, hml 13 (by omega)]; rfl)
      have hs2 : ((ps.length : Int) + 2 ≤ (c : Int)) = True := by simp only [eq_iff_iff, iff_true]; omega
      generalize ps.length = n at *
      clear hld hml hlt
      go_wp2_with fail
      go_ret
      exact ⟨rfl, HB1.out⟩
end Go.Proofs.YtenhaogheilmoaaDoor
