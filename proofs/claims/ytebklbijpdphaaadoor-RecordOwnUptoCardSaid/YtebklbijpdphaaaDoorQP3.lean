import Derived.Test.YtebklbijpdphaaaDoorQP2
import Derived.Test.YtebklbijpdphaaaDoorQE1
import Derived.Test.YtebklbijpdphaaaDoorQR5
import Derived.Test.YtebklbijpdphaaaDoorQO7
/-
  RecordOwn: handed.
-/
namespace Go.Proofs.YtebklbijpdphaaaDoor
open Go Go.RowKit
open Wb

theorem encN_len (x : Nums) (nm : ByteArray) (l : List Nat) (hx : x.nice) (hs : nm.size ≤ 1000000) (hl : l.length ≤ 16384) : ∀ n, n ≤ 11 → (encN x nm l n).length ≤ 1000200 * n
  | 0, _ => Nat.zero_le _
  | n + 1, h => by
    have ih := encN_len x nm l hx hs hl n (by omega)
    have h1 := valB_len x nm l (11 - n) hx hs hl (by omega) (by omega)
    have h2 := Wn.uint_len10 (11 - n) (by omega)
    rw [encN_succ, List.length_append]
    split
    · simp only [List.length_nil]; omega
    · rw [List.length_append]; omega
/-- what Encode hands out -/
def encP (r : Rec) : List Nat := if chk r.x r.nm r.l = 0 then enc r.x r.nm r.l else []
theorem encP_len (r : Rec) (hf : r.x.fit) : (encP r).length ≤ 16000000 := by
  unfold encP
  split
  · rename_i hc
    obtain ⟨hx, _, _, _, hN⟩ := chk_nice r.x r.nm r.l hc hf
    obtain ⟨hn, hl⟩ := chk_fits r.x r.nm r.l hN
    have h9 := encN_len r.x r.nm r.l hx (by omega) hl 11 (by omega)
    show (encN r.x r.nm r.l 11).length ≤ _
    omega
  · exact Nat.zero_le _
theorem encodeU (r : Rec) (d : Value) (w : World) (h : Bs w d r.l) (hT : Text.TabP 3 .i32 Text.Tx.lets w) (hG : TagsT w) (hf : r.x.fit) (hn : r.nm.size ≤ 140737488355000) :
    Calls Tryd.prog 21 #[rv r.x r.nm d] w fun e w' => ∃ ao, ∃ n cap : Nat, ∃ er, e = .returned (.tuple #[.slice ao n cap, .int .i64 er]) ∧ n = (encP r).length ∧ Own w.heap.size w' (.slice ao n cap) (encP r) ∧ Below w.heap.size w w' := by
  by_cases hc : chk r.x r.nm r.l = 0
  · have e1 : encP r = enc r.x r.nm r.l := by unfold encP; rw [if_pos hc]
    obtain ⟨hx, _, _, _, hN⟩ := chk_nice r.x r.nm r.l hc hf
    obtain ⟨hnm, hl⟩ := chk_fits r.x r.nm r.l hN
    rw [e1]
    exact (encode_ok r.x r.nm d r.l w h hT hG (by omega) hl hx hc).mono fun e w' ⟨ao, cap, he, ho, hb⟩ => ⟨ao, _, cap, 0, he, rfl, ho, hb⟩
  · have e1 : encP r = [] := by unfold encP; rw [if_neg hc]
    rw [e1]
    exact (encode_err r.x r.nm d r.l w h hT hG hn hc).mono fun e w' ⟨he, hb⟩ => ⟨none, 0, 0, _, he, rfl, Own.nil _ _, hb⟩
/-- what is handed out for one record -/
def hndOne (r : Rec) : List (List Nat) := [encP r, (dcd r.x.v (encP r)).2.l, r.l]
theorem flatR_snoc {α β : Type} (f : α → List β) (gs : List α) (j : Nat) (x : α) (h : gs[j]? = some x) : (gs.take (j + 1)).flatMap f = (gs.take j).flatMap f ++ f x := by
  rw [List.take_add_one, h]
  simp
set_option maxRecDepth 100000 in
set_option maxHeartbeats 4000000 in
theorem handed_any (v : Value) (rs : List Rec) (w : World) (h : RecsAt w v rs) (hE : ∀ r ∈ rs, r.nm.size ≤ 140737488355000 ∧ r.x.fit ∧ r.l.length ≤ 16777216) (hN : rs.length ≤ 1048576) (hT : Text.TabP 3 .i32 Text.Tx.lets w) (hG : TagsT w) :
    Calls Tryd.prog 10 #[v] w fun e w' => ∃ v' ps, e = .returned v' ∧ Ans w.heap.size w' v' ps ∧ ps.map Prod.snd = rs.flatMap hndOne ∧ Below w.heap.size w w' := by
  have hib := infoBS
  have HIR : Hid ((Tryd.prog.info? 27).map (·.size) = some 12) := infoRec
  have HE : Hid (∀ r ∈ rs, r.nm.size ≤ 140737488355000 ∧ r.x.fit ∧ r.l.length ≤ 16777216) := hE
  have HTT : Hid (∀ w', Below w.heap.size w w' → Text.TabP 3 .i32 Text.Tx.lets w' ∧ TagsT w') := fun w' hb => ⟨hT.kept hb, hG.kept hb⟩
  have HRS : Hid (∀ w', Below w.heap.size w w' → RecsAt w' v rs) := fun w' hb => h.kept hb
  obtain ⟨ao, cap, rfl, hm, _⟩ := h
  unfold maxLen at hm
  clear hE hT hG
  go_enter Tryd.func10, Tryd.ntmps10
  go_wp2
  go_loopw [3, 4] (fun o i wr => ∃ (k : Nat) (ps : List (Value × List Nat)), k ≤ rs.length ∧ i = .int .i64 (k : Int) ∧ Ans w.heap.size wr o ps ∧ ps.map Prod.snd = (rs.take k).flatMap hndOne ∧ ps.length = 3 * k ∧ Below w.heap.size w wr) (fun _ i _ => rs.length - (intOf i).toNat)
  case atStart => exact ⟨0, [], Nat.zero_le _, rfl, Ans.nil _ _, rfl, rfl, Below.refl _ _⟩
  case round =>
    obtain ⟨k, ps, hk, rfl, hA, hmap, hpl, hbel⟩ := hrel
    by_cases hlt : k < rs.length
    · obtain ⟨r, hr⟩ : ∃ r, rs[k]? = some r := ⟨rs[k], List.getElem?_eq_getElem hlt⟩
      obtain ⟨ao', cap', e', _, hcr⟩ := HRS.out _ hbel
      simp only [Value.slice.injEq] at e'
      obtain ⟨rfl, _, rfl⟩ := e'
      obtain ⟨b, off, d, rfl, hrg, hbs⟩ := hcr k r hr
      obtain ⟨hnm, hfit, hll⟩ := HE.out r (List.mem_of_getElem? hr)
      have HMP : Hid (ps.map Prod.snd ++ hndOne r = (rs.take (k + 1)).flatMap hndOne) := by show _ = _; rw [flatR_snoc hndOne rs k r hr, hmap]
      obtain ⟨ar, cr, rfl, _⟩ := hbs.shape
      have hblt : b < wr.heap.size := by
        have := hrg 0 _ rfl
        exact World.block_lt_of_cell? _ _ this
      have HR0 : Hid (∀ w', Below wr.heap.size wr w' → w'.rangeAt b (off + k * 12) [.int .i64 r.x.v, .int .i64 r.x.k, .int .i64 r.x.s, .int .i64 r.x.p, .int .i64 r.x.t, .int .i64 r.x.a, .int .i64 r.x.l, .int .i64 r.x.c, .int .i64 r.x.n, .int .i64 r.x.i, .string r.nm, .slice ar r.l.length cr]) := fun w' hb j u hj => (hb.cell (p := ⟨b, off + k * 12 + j, none⟩) hblt).trans (hrg j u hj)
      have HV0 : Hid (∀ w', Below wr.heap.size wr w' → w'.cell? ⟨b, off + k * 12, none⟩ = some (.int .i64 r.x.v)) := fun w' hb => (hb.cell (p := ⟨b, off + k * 12, none⟩) hblt).trans (hrg 0 _ rfl)
      have HBS : Hid (∀ w', Below wr.heap.size wr w' → Bs w' (.slice ar r.l.length cr) r.l) := fun w' hb => hbs.kept hb
      have HB0 : Hid (Below w.heap.size w wr) := hbel
      have hsz := hbel.size
      have HLT : Hid ((∀ p ∈ ps, ∀ g, p.1.ownBlock = some g → g < wr.heap.size) ∧ ∀ g, u3.ownBlock = some g → g < wr.heap.size) := hA.lt
      have HA : Hid (∀ w', Below wr.heap.size wr w' → Ans w.heap.size w' u3 ps) := fun w' hb => hA.kept hb
      have HEN : Hid (Calls Tryd.prog 21 #[rv r.x r.nm (.slice ar r.l.length cr)] wr fun e w' => ∃ ao, ∃ n cap : Nat, ∃ er, e = .returned (.tuple #[.slice ao n cap, .int .i64 er]) ∧ n = (encP r).length ∧ Own wr.heap.size w' (.slice ao n cap) (encP r) ∧ Below wr.heap.size wr w') := encodeU r _ wr hbs (HTT.out _ hbel).1 (HTT.out _ hbel).2 hfit hnm
      have hel := encP_len r hfit
      have HDE : Hid (∀ w' bv, Below wr.heap.size wr w' → Bs w' bv (encP r) → Calls Tryd.prog 19 #[.int .i64 r.x.v, bv] w' fun e w'' => ∃ (x : Nums) (nm : ByteArray) (a : Option Addr) (n c : Nat) (er : Int), e = .returned (.tuple #[rv x nm (.slice a n c), .int .i64 er]) ∧ Own w'.heap.size w'' (.slice a n c) (dcd r.x.v (encP r)).2.l ∧ Below w'.heap.size w' w'') := fun w' bv hb hbv => (decode_any r.x.v bv (encP r) w' hbv (by omega) (HTT.out _ (andThen hbel hb)).1 (HTT.out _ (andThen hbel hb)).2 _ rfl).mono fun e w'' ⟨a, c, he, ho, hb'⟩ => ⟨_, _, a, _, c, _, he, ho, hb'⟩
      have HCL : Hid (∀ w', Below wr.heap.size wr w' → Calls Tryd.prog 16 #[rv r.x r.nm (.slice ar r.l.length cr)] w' fun e w'' => ∃ (a : Option Addr) (n c : Nat), e = .returned (rv r.x r.nm (.slice a n c)) ∧ Own w'.heap.size w'' (.slice a n c) r.l ∧ Below w'.heap.size w' w'') := fun w' hb => (rclone_any r.x r.nm _ r.l w' (hbs.kept hb) (by omega)).mono fun e w'' ⟨d', he, ho, hb''⟩ => by
        obtain ⟨a, c, rfl, _⟩ := ho.bs.shape
        exact ⟨a, _, c, he, ho, hb''⟩
      have HH : Hid (hndOne r = [encP r, (dcd r.x.v (encP r)).2.l, r.l]) := rfl
      clear hcr hrg hbs hmap hr hA hbel hfit HE HRS HTT
      generalize encP r = E at *
      generalize (dcd r.x.v E).2.l = D at *
      unfold rv at *
      have r0 := HR0.out _ (Below.refl _ _)
      have HRW : Hid (wr.rangeAt b (off + k * 12) [.int .i64 r.x.v, .int .i64 r.x.k, .int .i64 r.x.s, .int .i64 r.x.p, .int .i64 r.x.t, .int .i64 r.x.a, .int .i64 r.x.l, .int .i64 r.x.c, .int .i64 r.x.n, .int .i64 r.x.i, .string r.nm, .slice ar r.l.length cr]) := r0
      clear r0
      go_wp2_with (refine wpList_load_mid rfl 27 _ rfl b (off + k * 12) rfl [.int .i64 r.x.v, .int .i64 r.x.k, .int .i64 r.x.s, .int .i64 r.x.p, .int .i64 r.x.t, .int .i64 r.x.a, .int .i64 r.x.l, .int .i64 r.x.c, .int .i64 r.x.n, .int .i64 r.x.i, .string r.nm, .slice ar r.l.length cr] _ HRW.out Tryd.underlying27 rfl HIR.out ?_)
      refine HEN.out.mono ?_
      rintro e w1 ⟨a1, n1, c1, er1, rfl, hn1, ho1, b1⟩
      have HN1 : Hid (New wr.heap.size w1 [(.slice a1 n1 c1, E)]) := New.one ho1
      have HB1 : Hid (Bs w1 (.slice a1 n1 c1) E ∧ Below wr.heap.size wr w1) := ⟨ho1.bs, b1⟩
      have c1v := HV0.out _ b1
      clear HEN HRW ho1 hn1 b1
      go_wp2_with fail
      refine (HDE.out _ _ HB1.out.2 HB1.out.1).mono ?_
      rintro e w2 ⟨x2, nm2, a2, n2, c2, er2, rfl, ho2, b2⟩
      have b2w := andThen HB1.out.2 b2
      have HN2 : Hid (New wr.heap.size w2 [(.slice a1 n1 c1, E), (.slice a2 n2 c2, D)]) := HN1.out.snoc HB1.out.2.size b2 ho2
      obtain ⟨W2, hW2⟩ : ∃ W2, W2 = w2.alloc (.cells #[.int .i64 x2.v, .int .i64 x2.k, .int .i64 x2.s, .int .i64 x2.p, .int .i64 x2.t, .int .i64 x2.a, .int .i64 x2.l, .int .i64 x2.c, .int .i64 x2.n, .int .i64 x2.i, .string nm2, .slice a2 n2 c2] 27) := ⟨_, rfl⟩
      have HW2 : Hid (W2 = w2.alloc (.cells #[.int .i64 x2.v, .int .i64 x2.k, .int .i64 x2.s, .int .i64 x2.p, .int .i64 x2.t, .int .i64 x2.a, .int .i64 x2.l, .int .i64 x2.c, .int .i64 x2.n, .int .i64 x2.i, .string nm2, .slice a2 n2 c2] 27)) := hW2
      have B2 : Below wr.heap.size wr W2 := by rw [hW2]; exact up b2w _
      have HN2' : Hid (New wr.heap.size W2 [(.slice a1 n1 c1, E), (.slice a2 n2 c2, D)]) := by rw [hW2]; exact HN2.out.kept (up0 _ _)
      have hg2 : w2.heap.size < W2.heap.size := by rw [hW2, heap_one]; omega
      have hd2 : W2.cell? ⟨w2.heap.size, 11, none⟩ = some (.slice a2 n2 c2) := by rw [hW2]; exact World.cell?_alloc_new w2 _ _ 11
      have HRW : Hid (W2.rangeAt b (off + k * 12) [.int .i64 r.x.v, .int .i64 r.x.k, .int .i64 r.x.s, .int .i64 r.x.p, .int .i64 r.x.t, .int .i64 r.x.a, .int .i64 r.x.l, .int .i64 r.x.c, .int .i64 r.x.n, .int .i64 r.x.i, .string r.nm, .slice ar r.l.length cr]) := HR0.out _ B2
      clear ho2 b2 b2w HB1 c1v HDE HN1 HN2 hW2
      go_wp2_with (first | (rw [← HW2.out]) | (refine wpList_load_mid rfl 27 _ rfl b (off + k * 12) rfl [.int .i64 r.x.v, .int .i64 r.x.k, .int .i64 r.x.s, .int .i64 r.x.p, .int .i64 r.x.t, .int .i64 r.x.a, .int .i64 r.x.l, .int .i64 r.x.c, .int .i64 r.x.n, .int .i64 r.x.i, .string r.nm, .slice ar r.l.length cr] _ HRW.out Tryd.underlying27 rfl HIR.out ?_))
      refine (HCL.out _ B2).mono ?_
      rintro e w3 ⟨a3, n3, c3, rfl, ho3, b3⟩
      have b3w := andThen B2 b3
      have HN3 : Hid (New wr.heap.size w3 [(.slice a1 n1 c1, E), (.slice a2 n2 c2, D), (.slice a3 n3 c3, r.l)]) := HN2'.out.snoc B2.size b3 ho3
      have hd3 : w3.cell? ⟨w2.heap.size, 11, none⟩ = some (.slice a2 n2 c2) := (b3.cell (p := ⟨w2.heap.size, 11, none⟩) hg2).trans hd2
      obtain ⟨W3, hW3⟩ : ∃ W3, W3 = w3.alloc (.cells #[.int .i64 r.x.v, .int .i64 r.x.k, .int .i64 r.x.s, .int .i64 r.x.p, .int .i64 r.x.t, .int .i64 r.x.a, .int .i64 r.x.l, .int .i64 r.x.c, .int .i64 r.x.n, .int .i64 r.x.i, .string r.nm, .slice a3 n3 c3] 27) := ⟨_, rfl⟩
      have HW3 : Hid (W3 = w3.alloc (.cells #[.int .i64 r.x.v, .int .i64 r.x.k, .int .i64 r.x.s, .int .i64 r.x.p, .int .i64 r.x.t, .int .i64 r.x.a, .int .i64 r.x.l, .int .i64 r.x.c, .int .i64 r.x.n, .int .i64 r.x.i, .string r.nm, .slice a3 n3 c3] 27)) := hW3
      have B3 : Below wr.heap.size wr W3 := by rw [hW3]; exact up b3w _
      have HN3' : Hid (∀ o, New wr.heap.size (W3.alloc o) [(.slice a1 n1 c1, E), (.slice a2 n2 c2, D), (.slice a3 n3 c3, r.l)] ∧ Ans w.heap.size (W3.alloc o) u3 ps ∧ Below w.heap.size w (W3.alloc o)) := fun o => ⟨by rw [hW3]; exact (HN3.out.kept (up0 _ _)).kept (up0 _ _), HA.out _ (up B3 _), andThen HB0.out (up B3 _)⟩
      have hgl : w2.heap.size < w3.heap.size := by have := b3.size; omega
      have e2 : W3.cell? ⟨w2.heap.size, 11, none⟩ = some (.slice a2 n2 c2) := by rw [hW3]; exact ((up0 w3 _).cell (p := ⟨w2.heap.size, 11, none⟩) hgl).trans hd3
      have e3 : W3.cell? ⟨w3.heap.size, 11, none⟩ = some (.slice a3 n3 c3) := by rw [hW3]; exact World.cell?_alloc_new w3 _ _ 11
      have hsW : w.heap.size ≤ W3.heap.size := (andThen HB0.out B3).size
      have HR3 : Hid ((W3.alloc (.cells #[.slice a1 n1 c1, .slice a2 n2 c2, .slice a3 n3 c3] 25)).rangeAt W3.heap.size 0 [.slice a1 n1 c1, .slice a2 n2 c2, .slice a3 n3 c3]) := by
        have h : (W3.alloc (.cells #[.slice a1 n1 c1, .slice a2 n2 c2, .slice a3 n3 c3] 25)).heap[W3.heap.size]? = some (.cells #[.slice a1 n1 c1, .slice a2 n2 c2, .slice a3 n3 c3] 25) := heap_new _ _
        exact World.rangeAt_of_block h 0 3
      clear ho3 b3 b3w hd2 hd3 HN2' HCL HRW HR0 HV0 HBS HN3 hW3 HA B2 B3 HW2 hg2 hgl
      go_wp2_with (first | (rw [← HW3.out]) | (at_builtin; refine wpList_append_new _ rfl (.tmp 39) (.tmp 45) 24 rfl w.heap.size wr.heap.size hib Tryd.underlying24 _ ps [(.slice a1 n1 c1, E), (.slice a2 n2 c2, D), (.slice a3 n3 c3, r.l)] rfl (HN3'.out _).2.1 (HN3'.out _).1 hsz HLT.out.1 HLT.out.2 W3.heap.size rfl HR3.out (by simp; omega) (by simp; omega) ?_))
      intro v8 w8 hA8 hg8
      have R : Hid (Ans w.heap.size w8 v8 (ps ++ [(.slice a1 n1 c1, E), (.slice a2 n2 c2, D), (.slice a3 n3 c3, r.l)]) ∧ Below w.heap.size w w8) := ⟨hA8, (HN3'.out _).2.2.trans (grown_below (HN3'.out _).2.1.row hg8 (by simp; omega))⟩
      clear hA8 hg8 HN3' HR3 HLT HB0 e2 e3 HW3
      go_wp2
      go_roundw
      case rel => exact ⟨k + 1, _, by omega, by go_num, R.out.1, by rw [← HMP.out, HH.out, List.map_append]; rfl, by simp; omega, R.out.2⟩
      case measure => simp [intOf]; omega
    · obtain rfl : k = rs.length := by omega
      rw [List.take_length] at hmap
      go_wp2
      go_ret
      exact ⟨_, ps, rfl, hA, hmap, hbel⟩
end Go.Proofs.YtebklbijpdphaaaDoor

/-
  RecordOwn: laid, untouched.
-/
namespace Go.Proofs.YtebklbijpdphaaaDoor
open Go Go.RowKit
open Wb

set_option maxRecDepth 100000 in
set_option maxHeartbeats 4000000 in
theorem laid3_any (r : Rec) (d : Value) (w : World) (h : Bs w d r.l) (hl : r.l.length ≤ 16777216) :
    Calls Tryd.prog 8 #[rv r.x r.nm d] w fun e w' => ∃ g, ∃ cap : Nat, e = .returned (.tuple #[rv r.x r.nm (.slice (some ⟨g, 0, none⟩) r.l.length cap), .slice (some ⟨g, 0, none⟩) (r.l.length + 3) cap]) ∧ Own w.heap.size w' (.slice (some ⟨g, 0, none⟩) (r.l.length + 3) cap) (r.l ++ [91, 92, 93]) ∧ r.l.length + 3 ≤ cap ∧ cap ≤ maxLen ∧ Below w.heap.size w w' := by
  have hin := info5
  have HIR : Hid ((Tryd.prog.info? 27).map (·.size) = some 12) := infoRec
  have HX : Hid (∀ o1 o2, ((w.alloc o1).alloc o2).heap[w.heap.size]? = some o1 ∧ ((w.alloc o1).alloc o2).heap[w.heap.size + 1]? = some o2 ∧ Below w.heap.size w ((w.alloc o1).alloc o2) ∧ w.heap.size + 2 ≤ ((w.alloc o1).alloc o2).heap.size) := fun o1 o2 => ⟨(heap2 w o1 o2).1, (heap2 w o1 o2).2.1, (heap2 w o1 o2).2.2, by rw [heap_one, heap_one]; omega⟩
  obtain ⟨ar, cr, rfl, _⟩ := h.shape
  have HCP : Hid (∀ w', Below w.heap.size w w' → Calls Tryd.prog 9 #[.slice ar r.l.length cr] w' fun e w'' => ∃ v', e = .returned v' ∧ Own w'.heap.size w'' v' r.l ∧ Below w'.heap.size w' w'') := fun w' hb => copied_any _ r.l w' (h.kept hb) (by omega)
  clear h
  unfold rv
  go_enter Tryd.func8, Tryd.ntmps8
  go_wp2_with fail
  refine (HCP.out _ (HX.out _ _).2.2.1).mono ?_
  rintro e w1 ⟨v1, rfl, ho1, b1⟩
  have hbx : Box w1 w.heap.size r.x r.nm (.slice ar r.l.length cr) := Box.kept (HX.out _ _).1 b1
  have hz : Box w1 (w.heap.size + 1) zeroNums ⟨#[]⟩ (.slice none 0 0) := Box.kept (HX.out _ _).2.1 b1
  have B1 := andThen (HX.out _ _).2.2.1 b1
  have HO1 : Hid (∀ o, Own (w.heap.size + 2) (w1.alloc o) v1 r.l ∧ w.heap.size + 2 ≤ (w1.alloc o).heap.size ∧ Box (w1.alloc o) w.heap.size r.x r.nm (.slice ar r.l.length cr) ∧ Box (w1.alloc o) (w.heap.size + 1) zeroNums ⟨#[]⟩ (.slice none 0 0) ∧ Below w.heap.size w (w1.alloc o)) := fun o => ⟨(ho1.mono (HX.out _ _).2.2.2).alloc o, by have h1 := (HX.out (.cells #[] 0) (.cells #[] 0)).2.2.2; have h2 := hz.lt; rw [heap_one]; omega, hbx.kept (up0 _ _), hz.kept (up0 _ _), up B1 _⟩
  obtain ⟨a1, n1, c1, rfl⟩ : ∃ a, ∃ n c : Nat, v1 = .slice a n c := by
    obtain ⟨a, c, e, _⟩ := ho1.bs.shape
    exact ⟨a, _, c, e⟩
  have HBB : Hid (Bs (w1.alloc (.cells #[.int .u8 91, .int .u8 92, .int .u8 93] 5)) (.slice (some ⟨w1.heap.size, 0, none⟩) 3 3) [91, 92, 93]) := (Own.lit (B := 0) w1 [91, 92, 93] (by intro y hy; simp at hy; omega) (Nat.zero_le _) (by simp [maxLen]) _ rfl).bs
  obtain ⟨c0, k1, k2, k3, k4, k5, k6, k7, k8, k9, k10, c11⟩ := hbx.cells
  clear ho1 b1 B1 HX HCP hbx hz
  go_wp2_with (at_builtin; refine wpList_append _ rfl (.tmp 11) (.tmp 12) 25 rfl (w.heap.size + 2) hin Tryd.underlying25 _ r.l rfl (HO1.out _).1 _ [91, 92, 93] rfl HBB.out (by simp; omega) (HO1.out _).2.1 ?_)
  intro v2 w2 ho2 b2 _
  obtain ⟨g, c2, e2, hgB, hc1, hc2⟩ : ∃ g, ∃ c : Nat, v2 = .slice (some ⟨g, 0, none⟩) (r.l.length + 3) c ∧ w.heap.size + 2 ≤ g ∧ r.l.length + 3 ≤ c ∧ c ≤ maxLen := by
    have hle : (r.l ++ [91, 92, 93]).length = r.l.length + 3 := by simp
    rcases ho2.row.2 with ⟨_, h1⟩ | ⟨g, cap, cur, e, hb, _, h1, h2, _⟩
    · rw [hle] at h1; cases h1
    · rw [hle] at e h1
      exact ⟨g, cap, e, hb, h1, h2⟩
  subst e2
  have hbx2 : Box w2 w.heap.size r.x r.nm (.slice ar r.l.length cr) := (b2.block _ (by omega)).trans (HO1.out _).2.2.1
  have hz2 : Box w2 (w.heap.size + 1) zeroNums ⟨#[]⟩ (.slice none 0 0) := (b2.block _ (by omega)).trans (HO1.out _).2.2.2.1
  have B2 : Below w.heap.size w w2 := (HO1.out _).2.2.2.2.trans (b2.mono (by omega))
  have hc2' : c2 ≤ 9223372036854775807 := by unfold maxLen at hc2; omega
  have x11 : w2.cell? ⟨w.heap.size, 11, none⟩ = some (.slice ar r.l.length cr) := hbx2.cells.2.2.2.2.2.2.2.2.2.2.2
  have y11 : w2.frozen? ⟨w.heap.size, 11, none⟩ = false := hbx2.free' 11
  have HK : Hid (Box (w2.setCell ⟨w.heap.size, 11, none⟩ (.slice (some ⟨g, 0, none⟩) r.l.length c2)) w.heap.size r.x r.nm (.slice (some ⟨g, 0, none⟩) r.l.length c2) ∧ Box (w2.setCell ⟨w.heap.size, 11, none⟩ (.slice (some ⟨g, 0, none⟩) r.l.length c2)) (w.heap.size + 1) zeroNums ⟨#[]⟩ (.slice none 0 0) ∧ Below w.heap.size w (w2.setCell ⟨w.heap.size, 11, none⟩ (.slice (some ⟨g, 0, none⟩) r.l.length c2)) ∧ Own (w.heap.size + 2) (w2.setCell ⟨w.heap.size, 11, none⟩ (.slice (some ⟨g, 0, none⟩) r.l.length c2)) (.slice (some ⟨g, 0, none⟩) (r.l.length + 3) c2) (r.l ++ [91, 92, 93])) := by
    refine ⟨?_, hz2.set _ _ (by show w.heap.size + 1 ≠ w.heap.size; omega), B2.setCell (p := ⟨w.heap.size, 11, none⟩) (Nat.le_refl _) _, own_kept2 ho2 fun g' hg' => set_other w2 _ _ g' fun e => ?_⟩
    · exact Go.heap_setCell_same w2 w.heap.size 11 _ _ _ hbx2
    · have h1 := (World.ownsRow.lt ho2.row g' hg').1
      have h2 : g' = w.heap.size := e
      omega
  clear ho2 b2 hbx2 hz2 B2 HO1 HBB c0 k1 k2 k3 k4 k5 k6 k7 k8 k9 k10 c11 hc2
  go_upto_region 4 with fail
  have HK' := HK.out
  clear HK x11 y11
  generalize w2.setCell ⟨w.heap.size, 11, none⟩ (.slice (some ⟨g, 0, none⟩) r.l.length c2) = W at HK' ⊢
  obtain ⟨hq, hz, hB, hof⟩ := HK'
  obtain ⟨c0, k1, k2, k3, k4, k5, k6, k7, k8, k9, k10, c11⟩ := hq.cells
  obtain ⟨z0, z1, z2, z3, z4, z5, z6, z7, z8, z9, z10, z11⟩ := hz.cells
  have f0 := hz.free' 0
  have f1 := hz.free' 1
  have f2 := hz.free' 2
  have f3 := hz.free' 3
  have f4 := hz.free' 4
  have f5 := hz.free' 5
  have f6 := hz.free' 6
  have f7 := hz.free' 7
  have f8 := hz.free' 8
  have f9 := hz.free' 9
  have f10 := hz.free' 10
  have f11 := hz.free' 11
  have HTH : Hid (W.there (w.heap.size + 1) 0 12) := hz.there
  have HF : Hid (Below w.heap.size w (W.setCells (w.heap.size + 1) 0 [.int .i64 r.x.v, .int .i64 r.x.k, .int .i64 r.x.s, .int .i64 r.x.p, .int .i64 r.x.t, .int .i64 r.x.a, .int .i64 r.x.l, .int .i64 r.x.c, .int .i64 r.x.n, .int .i64 r.x.i, .string r.nm, .slice (some ⟨g, 0, none⟩) r.l.length c2]) ∧ Own w.heap.size (W.setCells (w.heap.size + 1) 0 [.int .i64 r.x.v, .int .i64 r.x.k, .int .i64 r.x.s, .int .i64 r.x.p, .int .i64 r.x.t, .int .i64 r.x.a, .int .i64 r.x.l, .int .i64 r.x.c, .int .i64 r.x.n, .int .i64 r.x.i, .string r.nm, .slice (some ⟨g, 0, none⟩) r.l.length c2]) (.slice (some ⟨g, 0, none⟩) (r.l.length + 3) c2) (r.l ++ [91, 92, 93])) := ⟨below_cells (by omega) _ 0 W hB, (Own.cells hof (w.heap.size + 1) 0 _ (by omega)).mono (by omega)⟩
  clear hq hz hB hof
  go_wp2
  have HRG := World.rangeAt_setCells_same W (w.heap.size + 1) 0 [.int .i64 r.x.v, .int .i64 r.x.k, .int .i64 r.x.s, .int .i64 r.x.p, .int .i64 r.x.t, .int .i64 r.x.a, .int .i64 r.x.l, .int .i64 r.x.c, .int .i64 r.x.n, .int .i64 r.x.i, .string r.nm, .slice (some ⟨g, 0, none⟩) r.l.length c2] HTH.out
  refine bodyPost_ret (results_cell_slot (p := 2) (s := 3) (ty := 27) rfl _ _ (w.heap.size + 1) [.int .i64 r.x.v, .int .i64 r.x.k, .int .i64 r.x.s, .int .i64 r.x.p, .int .i64 r.x.t, .int .i64 r.x.a, .int .i64 r.x.l, .int .i64 r.x.c, .int .i64 r.x.n, .int .i64 r.x.i, .string r.nm, .slice (some ⟨g, 0, none⟩) r.l.length c2] _ rfl HRG Tryd.underlying27 rfl HIR.out) rfl ?_
  exact ⟨g, c2, rfl, HF.out.2, hc1, by unfold maxLen; omega, HF.out.1⟩
set_option maxRecDepth 100000 in
set_option maxHeartbeats 4000000 in
theorem untouched3_yes (va vb : Value) (l : List Nat) (w : World) (ha : Bs w va (l ++ [91, 92, 93])) (hb : Bs w vb l) (hl : l.length ≤ 16777216) :
    Calls Tryd.prog 17 #[va, vb] w fun e w' => e = .returned (.bool true) ∧ Below w.heap.size w w' := by
  have hle : (l ++ [91, 92, 93]).length = l.length + 3 := by simp
  obtain ⟨aa, ca, rfl, h1, h2, _, hca⟩ := ha.shape
  obtain ⟨b, off, rfl, hcell⟩ := hca (by simp)
  obtain ⟨ab, cb, rfl, hbs0⟩ := hb.shape
  clear hbs0
  rw [hle] at h1
  unfold maxLen at h2
  have HC : Hid (∀ w', Below w.heap.size w w' → w'.cell? ⟨b, off + l.length, none⟩ = some (.int .u8 91) ∧ w'.cell? ⟨b, off + (l.length + 1), none⟩ = some (.int .u8 92) ∧ w'.cell? ⟨b, off + (l.length + 2), none⟩ = some (.int .u8 93)) := fun w' hb' => by
    have k0 := hcell l.length (by rw [hle]; omega)
    have k1 := hcell (l.length + 1) (by rw [hle]; omega)
    have k2 := hcell (l.length + 2) (by rw [hle]; omega)
    have e0 : (l ++ [91, 92, 93])[l.length]'(by rw [hle]; omega) = 91 := by simp
    have e1 : (l ++ [91, 92, 93])[l.length + 1]'(by rw [hle]; omega) = 92 := by rw [List.getElem_append_right (by omega)]; simp
    have e2 : (l ++ [91, 92, 93])[l.length + 2]'(by rw [hle]; omega) = 93 := by rw [List.getElem_append_right (by omega)]; simp
    rw [e0] at k0
    rw [e1] at k1
    rw [e2] at k2
    exact ⟨(hb'.cell (p := ⟨b, off + l.length, none⟩) (World.block_lt_of_cell? _ _ k0)).trans k0, (hb'.cell (p := ⟨b, off + (l.length + 1), none⟩) (World.block_lt_of_cell? _ _ k1)).trans k1, (hb'.cell (p := ⟨b, off + (l.length + 2), none⟩) (World.block_lt_of_cell? _ _ k2)).trans k2⟩
  have HP : Hid (Bs w (.slice (some ⟨b, off, none⟩) l.length ca) l) := by
    refine ⟨⟨some ⟨b, off, none⟩, ca, rfl, by omega, by unfold maxLen; omega, (fun e => by cases e), fun hne => ⟨b, off, rfl, fun j hj => ?_⟩⟩, hb.good⟩
    have := hcell j (by rw [hle]; omega)
    rw [List.getElem_append_left hj] at this
    exact this
  have HAL : Hid (Calls Tryd.prog 27 #[.slice (some ⟨b, off, none⟩) l.length ca, .slice ab l.length cb] w fun e w' => e = .returned (.bool true) ∧ Below w.heap.size w w') := alike3_yes _ _ l w HP.out hb
  rw [hle]
  clear ha hb hcell hca hle HP
  generalize l.length = n at *
  go_enter Tryd.func17, Tryd.ntmps17
  go_wp2_with fail
  refine HAL.out.mono ?_
  rintro e w1 ⟨rfl, b1⟩
  obtain ⟨k0, k1, k2⟩ := HC.out _ b1
  clear HC HAL
  go_wp2
  go_ret
  exact ⟨rfl, b1⟩
end Go.Proofs.YtebklbijpdphaaaDoor
