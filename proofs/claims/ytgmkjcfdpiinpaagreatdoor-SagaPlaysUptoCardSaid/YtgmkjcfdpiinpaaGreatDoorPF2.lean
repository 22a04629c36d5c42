import Derived.Maps.AppendAt
import Derived.Test.YtgmkjcfdpiinpaaGreatDoorPDJ
open Go.Proofs.Tryz
set_option maxRecDepth 100000
set_option maxHeartbeats 4000000
namespace Go.Proofs.YtgmkjcfdpiinpaaGreatDoor
open Go Go.RowKit
open Wb

def tlK (k : Nat) : List Nat := (List.range k).map fun i => 201 + i % 5
def roomL (l : List Nat) : List Nat := l ++ tlK 75
theorem tlK_succ (k : Nat) : tlK (k + 1) = tlK k ++ [201 + k % 5] := by unfold tlK; rw [List.range_succ, List.map_append]; rfl
theorem tlK_len (k : Nat) : (tlK k).length = k := by simp [tlK]
theorem rem5 (k : Nat) : Int.tmod (k : Int) 5 = ((k % 5 : Nat) : Int) := by
 rw [Int.tmod_eq_emod_of_nonneg (by omega)]
 omega
theorem wrap5 (k : Nat) : IntKind.wrap .u8 (201 + ((k % 5 : Nat) : Int)) = ((201 + k % 5 : Nat) : Int) := by
 have h : k % 5 < 5 := Nat.mod_lt _ (by decide)
 generalize k % 5 = m at *
 obtain rfl | rfl | rfl | rfl | rfl : m = 0 ∨ m = 1 ∨ m = 2 ∨ m = 3 ∨ m = 4 := by omega
 all_goals decide
theorem roomy_any (v : Value) (l : List Nat) (w : World) (h : Bs w v l) (hlen : l.length ≤ 1048576) :
  Calls prog 23 #[v] w fun e w' => ∃ v', e = .returned v' ∧ Own w.heap.size w' v' (roomL l) ∧ Below w.heap.size w w' := by
 have hin := info5
 have HB : Hid (Bs w v l) := h
 obtain ⟨ao, cap, rfl, _⟩ := h.shape
 clear h
 go_enter func23, ntmps23
 go_wp2_with (at_builtin; refine wpList_append _ rfl (.tmp 5) (.tmp 6) 26 rfl w.heap.size hin underlying26 _ [] rfl (Own.nil _ _) _ l rfl HB.out (by simp; omega) (Nat.le_refl _) ?_)
 intro v1 w1 ho1 hb1 _
 have HO1 : Hid (Own w.heap.size w1 v1 l ∧ Below w.heap.size w w1) := ⟨ho1, hb1⟩
 clear ho1 hb1 HB
 go_wp2
 go_loopw [3, 4] (fun v i wr => ∃ k : Nat, k ≤ 75 ∧ i = .int .i64 (k : Int) ∧ Own w.heap.size wr v (l ++ tlK k) ∧ Below w.heap.size w wr) (fun _ i _ => 75 - (intOf i).toNat)
 case atStart => exact ⟨0, Nat.zero_le _, rfl, by show Own _ _ _ (l ++ []); rw [List.append_nil]; exact HO1.out.1, HO1.out.2⟩
 case round =>
  obtain ⟨k, hk, rfl, hown, hbel⟩ := hrel
  by_cases hlt : k < 75
  ·have HS : Hid (l ++ tlK (k + 1) = (l ++ tlK k) ++ [201 + k % 5]) := by show _ = _; rw [tlK_succ, List.append_assoc]
   have hL : (l ++ tlK k).length ≤ 2000000 := by rw [List.length_append, tlK_len]; omega
   have HO : Hid (∀ o, Own w.heap.size (wr.alloc o) u3 (l ++ tlK k)) := fun o => hown.alloc o
   have hsz := hbel.size
   have h256 : 201 + k % 5 < 256 := by omega
   have e5 := rem5 k
   have e6 := wrap5 k
   clear HO1
   generalize l ++ tlK k = m at *
   generalize k % 5 = k5 at *
   go_wp2_with (at_builtin; refine wpList_append _ rfl (.tmp 12) (.tmp 17) 26 rfl w.heap.size hin underlying26 _ m rfl (HO.out _) _ [201 + k5] rfl (Bs.one _ (201 + k5) h256 _ (by go_num)) (by simp; omega) (by simp; omega) ?_)
   intro v' w' ho' hb' _
   have R : Own w.heap.size w' v' (l ++ tlK (k + 1)) ∧ Below w.heap.size w w' := ⟨by rw [HS.out]; exact ho', (hbel.alloc hsz _).trans hb'⟩
   clear ho' hb' hown HO HS
   go_wp2
   go_roundw
   case rel => exact ⟨k + 1, by omega, by go_num, R.1, R.2⟩
   case measure => simp [intOf]; omega
  ·obtain rfl : k = 75 := by omega
   go_wp2
   go_ret
   exact ⟨_, rfl, hown, hbel⟩
theorem full_any (v : Value) (ls : List (List Nat)) (w : World) (h : Ps w v ls) (hall : ∀ x ∈ ls, x.length ≤ 1048576) (hnl : ls.length ≤ 100000000) :
  Calls prog 26 #[v] w fun e w' => ∃ a, ∃ c : Nat, e = .returned (.slice a ls.length c) ∧ OwnP w.heap.size w' (.slice a ls.length c) (ls.map roomL) ∧ Below w.heap.size w w' := by
 have hin := info22
 obtain ⟨ao, cap, rfl, hmx, hc⟩ := h.shape
 unfold maxLen at hmx
 clear h
 go_enter func26, ntmps26
 go_wp2
 go_loopw [3, 4] (fun o i wr => ∃ k : Nat, k ≤ ls.length ∧ i = .int .i64 (k : Int) ∧ OwnP w.heap.size wr o ((ls.take k).map roomL) ∧ Below w.heap.size w wr) (fun _ i _ => ls.length - (intOf i).toNat)
 case atStart => exact ⟨0, Nat.zero_le _, rfl, ⟨[], Row.nil _ _, rfl, fun j h => absurd h (Nat.not_lt_zero _)⟩, Below.refl _ _⟩
 case round =>
  obtain ⟨k, hk, rfl, hown, hbel⟩ := hrel
  by_cases hlt : k < ls.length
  ·obtain ⟨b, off, rfl, hcell⟩ := hc (List.ne_nil_of_length_pos (by omega))
   obtain ⟨vk, hck, hbk⟩ := hcell k hlt
   have H1 : Hid (∀ w', Below w.heap.size w w' → Bs w' vk ls[k]) := fun w' hb => hbk.kept hb
   have q1 : wr.cell? ⟨b, off + k, none⟩ = some vk := (hbel.cell (p := ⟨b, off + k, none⟩) (World.block_lt_of_cell? _ _ hck)).trans hck
   obtain ⟨aok, capk, rfl, hlk, hmk, hx1, hx2⟩ := hbk.shape
   have hkl : ls[k].length ≤ 1048576 := hall _ (List.getElem_mem hlt)
   have HS : Hid ((ls.take (k + 1)).map roomL = (ls.take k).map roomL ++ [roomL ls[k]]) := by show _ = _; rw [List.take_succ_eq_append_getElem hlt, List.map_append]; rfl
   have hdl : ((ls.take k).map roomL).length = k := by simp; omega
   obtain ⟨vs, hrow, hvl, hel⟩ := hown
   have hvs : vs.length ≤ 5000000000 := by omega
   have HVL : Hid (vs.length = ((ls.take k).map roomL).length) := hvl
   have HR : Hid (Row w.heap.size wr u3 vs ∧ (∀ j (h : j < vs.length) (h2 : j < ((ls.take k).map roomL).length), Own w.heap.size wr vs[j] ((ls.take k).map roomL)[j]) ∧ Below w.heap.size w wr) := ⟨hrow, hel, hbel⟩
   clear hx1 hx2 hc hcell hbk hck hel hrow hbel hvl
   generalize ls[k] = x at *
   generalize (ls.take k).map roomL = done at *
   go_wp2_with fail
   refine (roomy_any _ x _ (H1.out _ HR.out.2.2) hkl).mono ?_
   rintro e w2 ⟨v2, rfl, ho2, b2⟩
   obtain ⟨ao2, cap2, rfl, _, _⟩ := ho2.bs.shape
   have HRA : Hid (∀ o, Row w.heap.size (w2.alloc o) u3 vs) := fun o => HR.out.1.kept (up b2 _)
   have HC2 : Hid (∀ t, (w2.alloc (.cells #[.slice ao2 (roomL x).length cap2] t)).cell? ⟨w2.heap.size, 0, none⟩ = some (.slice ao2 (roomL x).length cap2)) := fun t => World.cell?_alloc_new w2 _ _ 0
   have hs2 : w.heap.size ≤ w2.heap.size := (andThen HR.out.2.2 b2).size
   have HB2 : Hid (Own w.heap.size w2 (.slice ao2 (roomL x).length cap2) (roomL x) ∧ Below wr.heap.size wr w2) := ⟨own_weak ho2 HR.out.2.2.size, b2⟩
   clear ho2 b2
   go_wp2_with (at_builtin; refine wpList_push _ rfl (.tmp 11) (.tmp 17) 29 rfl w.heap.size hin underlying29 _ vs rfl (HRA.out _) w2.heap.size (.slice ao2 (roomL x).length cap2) rfl (HC2.out _) rfl hvs (by simp; omega) ?_)
   intro v3 w3 hr3 b3 hg3
   have R : Hid (OwnP w.heap.size w3 v3 ((ls.take (k + 1)).map roomL) ∧ Below w.heap.size w w3) := by
    rw [HS.out]
    exact ⟨OwnP.push (HR.out.1.kept (up HB2.out.2 _)) HVL.out (fun j a b => (HR.out.2.1 j a b).kept (up HB2.out.2 _)) (HB2.out.1.kept (up0 _ _)) hr3 hg3, (up (andThen HR.out.2.2 HB2.out.2) _).trans b3⟩
   clear hr3 b3 hg3 HR H1 q1 HS HRA HC2 HB2
   go_wp2
   go_roundw
   case rel => exact ⟨k + 1, by omega, by go_num, R.out.1, R.out.2⟩
   case measure => simp [intOf]; omega
  ·rw [List.take_of_length_le (by omega)] at hown
   obtain ⟨a, c, e9⟩ := hown.shape
   rw [List.length_map] at e9
   obtain rfl : k = ls.length := by omega
   subst e9
   have HO : Hid (OwnP w.heap.size wr (.slice a ls.length c) (ls.map roomL) ∧ Below w.heap.size w wr) := ⟨hown, hbel⟩
   clear hown hbel hc
   go_wp2
   go_ret
   exact ⟨a, c, rfl, HO.out.1, HO.out.2⟩
theorem wpList_push2 {P : Program} (w : World) {ops : Array Oper} {rest : List Oper} {o : Oper} {a : Act} {Q : Exit → Act → World → Prop} (hgd : o.guard = none) (s x : Operand) (t : TypeId)
  (ho : o.op = .call { callee := .builtin .append, args := #[s, x], argTypes := #[t, t] })
  (B : Nat) (hinfo : (P.info? 26).map (fun i => (i.zero, i.size, i.bytes)) = some (some (.slice none 0 0), 1, 24)) (ht : P.underlying t = some (.slice 26))
  (v : Value) (vs : List Value) (hv : a.eval s = v) (h : Row B w v vs) (g : Nat) (u : Value) (hx : a.eval x = .slice (some ⟨g, 0, none⟩) 1 1) (hu : w.cell? ⟨g, 0, none⟩ = some u) (h1 : u.oneCell' = true)
  (hmax : vs.length ≤ 5000000000) (hB : B ≤ w.heap.size)
  (hK : ∀ v' w', Row B w' v' (vs ++ [u]) → Below B w w' → w.grownBy w' v.ownBlock → (v'.ownBlock = v.ownBlock ∨ v'.ownBlock = some w.heap.size) → wpList P ops Q rest (a.put o.dst v') w') : wpList P ops Q (o :: rest) a w := by
 obtain ⟨i0, hi, hz0, hz1, hz2⟩ := info_parts hinfo
 refine wpList_append_own_at w hgd s x t ho B 26 i0 (.slice none 0 0) 1 24 ht hi hz0 hz1 hz2 rfl (by decide) v vs.length vs hv h ⟨g, 0, none⟩ 1 1 [u] hx rfl ?_ (by intro y hy; simp at hy; subst hy; exact h1) (by unfold maxLen; omega) (by omega) hB ?_
 ·intro j y hj
  match j, hj with
  | 0, hj => simp at hj; subst hj; simpa [Addr.add] using hu
 ·intro v' w' h2 h3 _ h5
  refine hK v' w' ?_ ((Below.refl B w).grown h3 hB (fun k hk => (h.lt k hk).1)) h3 h5
  show w'.ownsRow B 26 1 v' (vs ++ [u]).length (vs ++ [u])
  rw [List.length_append]
  exact h2
theorem row_away {B B2 : Nat} {w w' : World} {v u : Value} {vs : List Value} (h : Row B2 w u vs) (hg : w.grownBy w' v.ownBlock) (hne : ∀ g, u.ownBlock = some g → v.ownBlock ≠ some g) (_hB : B ≤ B2) : Row B2 w' u vs := row_kept2 h fun g hgu => hg.block g (World.ownsRow.lt h g hgu).2 fun e => hne g hgu e.symm
theorem cut_bs {B : Nat} {w : World} {a : Option Addr} {n c : Nat} {l : List Nat} (h : Own B w (.slice a n c) (roomL l)) : Bs w (.slice a l.length c) l := by
 have hl : (roomL l).length = l.length + 75 := by unfold roomL; rw [List.length_append, tlK_len]
 have hok : ok l := fun x hx => h.good x (List.mem_append_left _ hx)
 obtain ⟨a', c', e, h1, h2, h3, h4⟩ := h.bs.shape
 simp only [Value.slice.injEq] at e
 obtain ⟨rfl, _, rfl⟩ := e
 refine ⟨⟨a, c, rfl, by omega, h2, h3, fun hne => ?_⟩, hok⟩
 obtain ⟨b, off, e, hc⟩ := h4 (by intro e; have := congrArg List.length e; rw [hl] at this; simp at this)
 refine ⟨b, off, e, fun j hj => ?_⟩
 rw [hc j (by omega)]
 congr 2
 unfold roomL
 rw [List.getElem_append_left hj]
structure Laid2 (B : Nat) (w : World) (vm vw : Value) (ms ds : List Value) (ls : List (List Nat)) : Prop where
 m : Row B w vm ms
 d : Row B w vw ds
 ap : ∀ g, vm.ownBlock = some g → vw.ownBlock ≠ some g
 ml : ms.length = ls.length
 dl : ds.length = ls.length
 each : ∀ j (h : j < ls.length), ∃ a n c, ds[j]? = some (.slice a n c) ∧ ms[j]? = some (.slice a ls[j].length c) ∧ Own B w (.slice a n c) (roomL ls[j])
theorem Laid2.kept {B : Nat} {w w' : World} {vm vw : Value} {ms ds : List Value} {ls : List (List Nat)} (h : Laid2 B w vm vw ms ds ls) (hb : Below w.heap.size w w') : Laid2 B w' vm vw ms ds ls := ⟨h.m.kept hb, h.d.kept hb, h.ap, h.ml, h.dl, fun j hj => by
 obtain ⟨a, n, c, h1, h2, h3⟩ := h.each j hj
 exact ⟨a, n, c, h1, h2, h3.kept hb⟩⟩
theorem Laid2.more {B : Nat} {w w2 w3 w4 : World} {vm vw vm' vw' : Value} {ms ds : List Value} {ls : List (List Nat)} {l : List Nat} {a : Option Addr} {n c : Nat} (h : Laid2 B w vm vw ms ds ls) (ho : Own B w (.slice a n c) (roomL l)) (g2 : w.grownBy w2 vw.ownBlock) (r2 : Row B w2 vw' (ds ++ [.slice a n c])) (e2 : vw'.ownBlock = vw.ownBlock ∨ vw'.ownBlock = some w.heap.size)
  (b3 : Below w2.heap.size w2 w3) (g4 : w3.grownBy w4 vm.ownBlock) (r4 : Row B w4 vm' (ms ++ [.slice a l.length c])) (e4 : vm'.ownBlock = vm.ownBlock ∨ vm'.ownBlock = some w3.heap.size) : Laid2 B w4 vm' vw' (ms ++ [.slice a l.length c]) (ds ++ [.slice a n c]) (ls ++ [l]) := by
 have hm2 := row_away h.m g2 (fun g hg => h.ap g hg) (Nat.le_refl B)
 have hm3 := hm2.kept b3
 have hd3 := r2.kept b3
 have hsz : w.heap.size ≤ w2.heap.size := g2.size
 have hap : ∀ g, vw'.ownBlock = some g → vm.ownBlock ≠ some g := fun g hg hm => by
  rcases e2 with e | e
  ·exact h.ap g hm (by rw [← e]; exact hg)
  ·rw [e] at hg
   have h1 := (World.ownsRow.lt h.m g hm).2
   have := Option.some.inj hg
   omega
 have hd4 : Row B w4 vw' (ds ++ [.slice a n c]) := row_away hd3 g4 hap (Nat.le_refl B)
 refine ⟨r4, hd4, fun g hg hw => ?_, by simp [h.ml], by simp [h.dl], fun j hj => ?_⟩
 ·rcases e4 with e | e
  ·exact hap g hw (by rw [← e]; exact hg)
  ·rw [e] at hg
   have h1 := (World.ownsRow.lt hd3 g hw).2
   have := Option.some.inj hg
   omega
 ·have grow : ∀ {d : Value} {x : List Nat}, Own B w d x → Own B w4 d x := fun hd => Own.grown hm3 ((Own.grown h.d hd g2).kept b3) g4
  by_cases hlt : j < ls.length
  ·obtain ⟨a', n', c', h1, h2, h3⟩ := h.each j hlt
   refine ⟨a', n', c', ?_, ?_, ?_⟩
   ·rw [List.getElem?_append_left (by rw [h.dl]; exact hlt)]
    exact h1
   ·rw [List.getElem?_append_left (by rw [h.ml]; exact hlt), List.getElem_append_left hlt]
    exact h2
   ·rw [List.getElem_append_left hlt]
    exact grow h3
  ·obtain rfl : j = ls.length := by simp at hj; omega
   refine ⟨a, n, c, ?_, ?_, ?_⟩
   ·rw [List.getElem?_append_right (by rw [h.dl]; exact Nat.le_refl _), h.dl, Nat.sub_self]
    rfl
   ·rw [List.getElem?_append_right (by rw [h.ml]; exact Nat.le_refl _), h.ml, Nat.sub_self]
    simp
   ·have : (ls ++ [l])[ls.length] = l := by simp
    rw [this]
    exact grow ho
theorem row_ps {B : Nat} {w : World} {v : Value} {vs : List Value} {ls : List (List Nat)} (h1 : Row B w v vs) (h2 : vs.length = ls.length) (h3 : ∀ j (hj : j < ls.length), Bs w (vs[j]'(by rw [h2]; exact hj)) ls[j]) : Ps w v ls := by
 rcases h1.shape with ⟨rfl, rfl⟩ | ⟨g, cap, rfl, hl, hm, hc⟩
 ·have : ls = [] := List.eq_nil_of_length_eq_zero (by simpa using h2.symm)
  subst this
  exact ⟨none, 0, rfl, by simp [maxLen], fun e => absurd rfl e⟩
 ·refine ⟨some ⟨g, 0, none⟩, cap, by rw [h2], by omega, fun _ => ⟨g, 0, rfl, fun j hj => ⟨vs[j]'(by omega), ?_, h3 j hj⟩⟩⟩
  rw [Nat.zero_add]
  exact hc j (by omega)
def mark206 : List (List Nat) := List.replicate 20 [206]
def Laid3 (B : Nat) (w : World) (vm vw : Value) (ms ds es : List Value) (ls : List (List Nat)) : Prop := Row B w vm (ms ++ es) ∧ Row B w vw ds ∧ (∀ g, vm.ownBlock = some g → vw.ownBlock ≠ some g) ∧ ms.length = ls.length ∧ ds.length = ls.length ∧
 (∀ j (h : j < ls.length), ∃ a n c, ds[j]? = some (.slice a n c) ∧ ms[j]? = some (.slice a ls[j].length c) ∧ Own B w (.slice a n c) (roomL ls[j])) ∧ ∀ e ∈ es, Own B w e [206]
theorem Laid3.kept {B : Nat} {w w' : World} {vm vw : Value} {ms ds es : List Value} {ls : List (List Nat)} (h : Laid3 B w vm vw ms ds es ls) (hb : Below w.heap.size w w') : Laid3 B w' vm vw ms ds es ls := ⟨h.1.kept hb, h.2.1.kept hb, h.2.2.1, h.2.2.2.1, h.2.2.2.2.1, fun j hj => by
 obtain ⟨a, n, c, h1, h2, h3⟩ := h.2.2.2.2.2.1 j hj
 exact ⟨a, n, c, h1, h2, h3.kept hb⟩, fun e he => (h.2.2.2.2.2.2 e he).kept hb⟩
theorem Laid3.more {B : Nat} {w w4 : World} {vm vw vm' e : Value} {ms ds es : List Value} {ls : List (List Nat)} (h : Laid3 B w vm vw ms ds es ls) (ho : Own B w e [206]) (g4 : w.grownBy w4 vm.ownBlock) (r4 : Row B w4 vm' (ms ++ (es ++ [e]))) (e4 : vm'.ownBlock = vm.ownBlock ∨ vm'.ownBlock = some w.heap.size) : Laid3 B w4 vm' vw ms ds (es ++ [e]) ls := by
 have grow : ∀ {d : Value} {x : List Nat}, Own B w d x → Own B w4 d x := fun hd => Own.grown h.1 hd g4
 refine ⟨r4, row_away h.2.1 g4 (fun g hg hm => h.2.2.1 g hm hg) (Nat.le_refl B), fun g hg hw => ?_, h.2.2.2.1, h.2.2.2.2.1, fun j hj => ?_, fun x hx => ?_⟩
 ·rcases e4 with e9 | e9
  ·exact h.2.2.1 g (by rw [← e9]; exact hg) hw
  ·rw [e9] at hg
   have h1 := (World.ownsRow.lt h.2.1 g hw).2
   have := Option.some.inj hg
   omega
 ·obtain ⟨a, n, c, h1, h2, h3⟩ := h.2.2.2.2.2.1 j hj
  exact ⟨a, n, c, h1, h2, grow h3⟩
 ·rcases List.mem_append.1 hx with h1 | h1
  ·exact grow (h.2.2.2.2.2.2 x h1)
  ·obtain rfl := List.mem_singleton.1 h1
   exact grow ho
theorem Laid3.arr {B : Nat} {w : World} {vm vw : Value} {ms ds es : List Value} {ls : List (List Nat)} (h : Laid3 B w vm vw ms ds es ls) : Ps w vw (ls.map roomL) := row_ps h.2.1 (by rw [h.2.2.2.2.1, List.length_map]) fun j hj => by
 have hj2 : j < ls.length := by simpa using hj
 obtain ⟨a, n, c, h1, _, h3⟩ := h.2.2.2.2.2.1 j hj2
 have e1 := (List.getElem?_eq_some_iff.1 h1).2
 rw [e1, List.getElem_map]
 have h4 := h3.bs
 obtain ⟨a', c', e, _⟩ := h4.shape
 exact h4
theorem Laid3.cut {B : Nat} {w : World} {vm vw : Value} {ms ds es : List Value} {ls : List (List Nat)} (h : Laid3 B w vm vw ms ds es ls) (he : es.length = 20) : Ps w vm (ls ++ mark206) := row_ps h.1 (by rw [List.length_append, List.length_append, h.2.2.2.1, he]; rfl) fun j hj => by
 by_cases hlt : j < ls.length
 ·obtain ⟨a, n, c, _, h2, h3⟩ := h.2.2.2.2.2.1 j hlt
  have e1 := (List.getElem?_eq_some_iff.1 h2).2
  rw [List.getElem_append_left (by rw [h.2.2.2.1]; exact hlt), List.getElem_append_left hlt, e1]
  exact cut_bs h3
 ·have hj2 : j - ls.length < es.length := by
   rw [he]
   have : j < ls.length + 20 := by
    have h9 := hj
    rw [List.length_append] at h9
    exact h9
   omega
  rw [List.getElem_append_right (by rw [h.2.2.2.1]; omega), List.getElem_append_right (by omega)]
  have h5 := (h.2.2.2.2.2.2 _ (List.getElem_mem (show j - ms.length < es.length by rw [h.2.2.2.1]; exact hj2))).bs
  have e6 : ∀ (i : Nat) (hi : i < mark206.length), mark206[i] = [206] := fun i hi => List.getElem_replicate _
  rw [e6]
  exact h5
theorem laidS_any (v : Value) (ls : List (List Nat)) (w : World) (h : Ps w v ls) (hall : ∀ x ∈ ls, x.length ≤ 1048576) (hnl : ls.length ≤ 1048576) :
  Calls prog 22 #[v] w fun e w' => ∃ vm vw ms ds es, e = .returned (.tuple #[vm, vw]) ∧ Laid3 w.heap.size w' vm vw ms ds es ls ∧ es.length = 20 ∧ Below w.heap.size w w' := by
 have hin := info22
 obtain ⟨ao, cap, rfl, hmx, hc⟩ := h.shape
 unfold maxLen at hmx
 clear h
 go_enter func22, ntmps22
 go_wp2
 go_loopw [4, 5, 6] (fun vm vw i wr => ∃ (k : Nat) (ms ds : List Value), k ≤ ls.length ∧ i = .int .i64 (k : Int) ∧ Laid2 w.heap.size wr vm vw ms ds (ls.take k) ∧ Below w.heap.size w wr) (fun _ _ i _ => ls.length - (intOf i).toNat)
 case atStart => exact ⟨0, [], [], Nat.zero_le _, rfl, ⟨Row.nil _ _, Row.nil _ _, fun g hg => by simp [Value.ownBlock] at hg, rfl, rfl, fun j hj => absurd hj (Nat.not_lt_zero _)⟩, Below.refl _ _⟩
 case round =>
  obtain ⟨k, ms, ds, hk, rfl, hld, hbel⟩ := hrel
  by_cases hlt : k < ls.length
  ·obtain ⟨b, off, rfl, hcell⟩ := hc (List.ne_nil_of_length_pos (by omega))
   obtain ⟨vk, hck, hbk⟩ := hcell k hlt
   have HCK : Hid (∀ w', Below w.heap.size w w' → w'.cell? ⟨b, off + k, none⟩ = some vk) := fun w' hb => (hb.cell (p := ⟨b, off + k, none⟩) (World.block_lt_of_cell? _ _ hck)).trans hck
   have H1 : Hid (∀ w', Below w.heap.size w w' → Bs w' vk ls[k]) := fun w' hb => hbk.kept hb
   have q1 := HCK.out _ hbel
   obtain ⟨aok, capk, rfl, hlk, hmk, _, _⟩ := hbk.shape
   have hkl : ls[k].length ≤ 1048576 := hall _ (List.getElem_mem hlt)
   have HS : Hid (ls.take (k + 1) = ls.take k ++ [ls[k]]) := List.take_succ_eq_append_getElem hlt
   have hdl : (ls.take k).length = k := by simp; omega
   have HR : Hid (Laid2 w.heap.size wr u4 u5 ms ds (ls.take k) ∧ Below w.heap.size w wr) := ⟨hld, hbel⟩
   have hml := hld.ml
   have hdl2 := hld.dl
   unfold maxLen at hmk
   clear hc hcell hbk hck hld hbel
   generalize ls[k] = x at *
   go_wp2_with fail
   refine (roomy_any _ x _ (H1.out _ HR.out.2) hkl).mono ?_
   rintro e w2 ⟨v2, rfl, ho2, b2⟩
   have hrl : (roomL x).length = x.length + 75 := by unfold roomL; rw [List.length_append, tlK_len]
   obtain ⟨ao2, cap2, rfl, hcp2, hcm2, -, -⟩ := ho2.bs.shape
   unfold maxLen at hcm2
   have hcp3 : x.length ≤ cap2 := by omega
   generalize (roomL x).length = N at ho2 hcp2 ⊢
   clear hrl
   have HB2 : Hid (Own w.heap.size w2 (.slice ao2 N cap2) (roomL x) ∧ Below wr.heap.size wr w2 ∧ Below w.heap.size w w2) := ⟨own_weak ho2 HR.out.2.size, b2, andThen HR.out.2 b2⟩
   have HRA : Hid (∀ o, Row w.heap.size (w2.alloc o) u5 ds ∧ w.heap.size ≤ (w2.alloc o).heap.size) := fun o => ⟨(HR.out.1.d.kept b2).kept (up0 _ _), (up HB2.out.2.2 _).size⟩
   clear ho2 b2
   go_wp2_with (at_builtin; refine wpList_push2 _ rfl (.tmp 20) (.tmp 22) 29 rfl w.heap.size hin underlying29 _ ds rfl (HRA.out _).1 w2.heap.size (.slice ao2 N cap2) rfl (World.cell?_alloc_new w2 _ _ 0) rfl (by omega) (HRA.out _).2 ?_)
   intro v3 w3 hr3 b3 hg3 ha3
   have H3 : Hid (w.heap.size ≤ w3.heap.size ∧ Below w.heap.size w w3) := ⟨((up HB2.out.2.2 _).trans b3).size, (up HB2.out.2.2 _).trans b3⟩
   have q3 := HCK.out _ H3.out.2
   have HRM : Hid (∀ o, Row w.heap.size (w3.alloc o) u4 ms ∧ w.heap.size ≤ (w3.alloc o).heap.size) := fun o => ⟨(row_away ((HR.out.1.m.kept HB2.out.2.1).kept (up0 _ _)) hg3 (fun g hg => HR.out.1.ap g hg) (Nat.le_refl _)).kept (up0 _ _), (up H3.out.2 _).size⟩
   have HMO : Hid (∀ (o3 : Obj) (v4 : Value) (w4 : World), (w3.alloc o3).grownBy w4 u4.ownBlock → Row w.heap.size w4 v4 (ms ++ [.slice ao2 x.length cap2]) → (v4.ownBlock = u4.ownBlock ∨ v4.ownBlock = some (w3.alloc o3).heap.size) → Laid2 w.heap.size w4 v4 v3 (ms ++ [.slice ao2 x.length cap2]) (ds ++ [.slice ao2 N cap2]) (ls.take (k + 1))) := fun o3 v4 w4 g4 r4 e4 => by
    rw [HS.out]
    exact ((HR.out.1.kept HB2.out.2.1).kept (up0 _ _)).more (HB2.out.1.kept (up0 _ _)) hg3 hr3 (by rw [heap_one]; exact ha3) (up0 _ _) g4 r4 e4
   clear hr3 b3 hg3 ha3 HRA
   go_wp2_with (at_builtin; refine wpList_push2 _ rfl (.tmp 24) (.tmp 32) 29 rfl w.heap.size hin underlying29 _ ms rfl (HRM.out _).1 w3.heap.size (.slice ao2 x.length cap2) rfl (World.cell?_alloc_new w3 _ _ 0) rfl (by omega) (HRM.out _).2 ?_)
   intro v4 w4 hr4 b4 hg4 ha4
   have HN : Hid (Laid2 w.heap.size w4 v4 v3 (ms ++ [.slice ao2 x.length cap2]) (ds ++ [.slice ao2 N cap2]) (ls.take (k + 1)) ∧ Below w.heap.size w w4) := ⟨HMO.out _ _ _ hg4 hr4 (by rw [heap_one]; exact ha4), (up H3.out.2 _).trans b4⟩
   clear hr4 b4 hg4 ha4 HMO HRM HR H1 q1 q3 HS HB2 H3 HCK
   go_wp2
   go_roundw
   case rel => exact ⟨k + 1, _, _, by omega, by go_num, HN.out.1, HN.out.2⟩
   case measure => simp [intOf]; omega
  ·obtain rfl : k = ls.length := by omega
   rw [List.take_of_length_le (Nat.le_refl _)] at hld
   have HL0 : Hid (Laid3 w.heap.size wr u4 u5 ms ds [] ls ∧ Below w.heap.size w wr) := ⟨⟨by rw [List.append_nil]; exact hld.m, hld.d, hld.ap, hld.ml, hld.dl, hld.each, fun e he => by cases he⟩, hbel⟩
   have hml := hld.ml
   clear hld hbel hc
   go_wp2
   go_loopw [4, 8] (fun vm i wq => ∃ (q : Nat) (es : List Value), q ≤ 20 ∧ i = .int .i64 (q : Int) ∧ es.length = q ∧ Laid3 w.heap.size wq vm u5 ms ds es ls ∧ Below w.heap.size w wq) (fun _ i _ => 20 - (intOf i).toNat)
   case atStart => exact ⟨0, [], Nat.zero_le _, rfl, rfl, HL0.out.1, HL0.out.2⟩
   case round =>
    obtain ⟨q, es, hq, rfl, hes, hld, hbel⟩ := hrel
    have HR : Hid (Laid3 w.heap.size wr u4 u5 ms ds es ls ∧ Below w.heap.size w wr ∧ es.length = q) := ⟨hld, hbel, hes⟩
    clear hld hbel HL0
    by_cases hlt2 : q < 20
    ·have HRA : Hid (∀ o o2, Laid3 w.heap.size ((wr.alloc o).alloc o2) u4 u5 ms ds es ls ∧ w.heap.size ≤ ((wr.alloc o).alloc o2).heap.size ∧ Below w.heap.size w ((wr.alloc o).alloc o2)) := fun o o2 => ⟨(HR.out.1.kept (up0 _ _)).kept (up0 _ _), (up (up HR.out.2.1 _) _).size, up (up HR.out.2.1 _) _⟩
     have HOE : Hid (∀ o2, Own w.heap.size ((wr.alloc (.cells #[.int .u8 206] 5)).alloc o2) (.slice (some ⟨wr.heap.size, 0, none⟩) 1 1) [206]) := fun o2 => (Own.kept ⟨World.ownsRow_lit wr #[.int .u8 206] 1 HR.out.2.1.size (by simp [maxLen]) rfl, fun x hx => by obtain rfl := List.mem_singleton.1 hx; decide⟩ (up0 _ _))
     have hml2 : (ms ++ es).length ≤ 5000000000 := by rw [List.length_append]; omega
     go_wp2_with (at_builtin; refine wpList_push2 _ rfl (.tmp 38) (.tmp 40) 29 rfl w.heap.size hin underlying29 _ (ms ++ es) rfl (HRA.out _ _).1.1 (wr.heap.size + 1) (.slice (some ⟨wr.heap.size, 0, none⟩) 1 1) rfl ?hcell rfl hml2 (HRA.out _ _).2.1 ?_)
     case hcell =>
      rw [← heap_one wr (.cells #[.int .u8 206] 5)]
      exact World.cell?_alloc_new _ _ _ 0
     intro v4 w4 hr4 b4 hg4 ha4
     have HN : Hid (Laid3 w.heap.size w4 v4 u5 ms ds (es ++ [.slice (some ⟨wr.heap.size, 0, none⟩) 1 1]) ls ∧ Below w.heap.size w w4 ∧ (es ++ [Value.slice (some ⟨wr.heap.size, 0, none⟩) 1 1]).length = q + 1) := ⟨(HRA.out _ _).1.more (HOE.out _) hg4 hr4 (by rw [heap_one, heap_one]; exact ha4), (HRA.out _ _).2.2.trans b4, by rw [List.length_append, HR.out.2.2]; rfl⟩
     clear hr4 b4 hg4 ha4 HRA HOE HR
     go_wp2
     go_roundw
     case rel => exact ⟨q + 1, _, by omega, by go_num, HN.out.2.2, HN.out.1, HN.out.2.1⟩
     case measure => simp [intOf]; omega
    ·obtain rfl : q = 20 := by omega
     go_wp2
     go_ret2
     exact ⟨_, _, ms, ds, es, rfl, HR.out.1, HR.out.2.2, HR.out.2.1⟩
end Go.Proofs.YtgmkjcfdpiinpaaGreatDoor
