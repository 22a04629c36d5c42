import Derived.Test.YtjhgjlnckidjkaaDoorQA1
import Derived.Test.YtjhgjlnckidjkaaDoorQU3
/-
  LiftEmpty, LiftOwn: tail, hollow, unspoilt, data.
-/
namespace Go.Proofs.YtjhgjlnckidjkaaDoor
open Go Go.RowKit
open Wb

def lenV : Value → Nat
  | .slice _ n _ => n
  | _ => 0
theorem ok_rep {n a : Nat} (h : a < 256) : ok (List.replicate n a) := fun x hx => by rw [(List.mem_replicate.1 hx).2]; exact h
theorem wrap251 (i : Nat) : IntKind.wrap .u8 (251 + ((i % 5 : Nat) : Int)) = ((251 + i % 5 : Nat) : Int) := by
  have h : i % 5 < 5 := Nat.mod_lt _ (by decide)
  generalize i % 5 = m at *
  obtain rfl | rfl | rfl | rfl | rfl : m = 0 ∨ m = 1 ∨ m = 2 ∨ m = 3 ∨ m = 4 := by omega
  all_goals decide
set_option maxRecDepth 100000 in
set_option maxHeartbeats 1000000 in
theorem tail_any (i n : Nat) (w : World) (_hi : i ≤ 9000000) (hn : n ≤ 1000) :
    Calls Tryd.prog 35 #[.int .i64 (i : Int), .int .i64 (n : Int)] w fun e w' => ∃ v', e = .returned v' ∧ Own w.heap.size w' v' (List.replicate n (251 + i % 5)) ∧ Below w.heap.size w w' := by
  have hin := info5
  have e5 := rem5 i
  have e6 := wrap251 i
  have h256 : 251 + i % 5 < 256 := by omega
  generalize i % 5 = m at *
  go_enter Tryd.func35, Tryd.ntmps35
  go_wp2
  go_loopw [5] (fun v wr => ∃ k : Nat, k ≤ n ∧ Own w.heap.size wr v (List.replicate k (251 + m)) ∧ Below w.heap.size w wr) (fun v _ => n - lenV v)
  case atStart => exact ⟨0, Nat.zero_le _, Own.nil _ _, Below.refl _ _⟩
  case round =>
    obtain ⟨k, hk, hown, hbel⟩ := hrel
    obtain ⟨ak, ck, rfl, _⟩ := hown.bs.shape
    rw [List.length_replicate] at hown ⊢
    by_cases hlt : k < n
    · have HO : Hid (∀ o, Own w.heap.size (wr.alloc o) (.slice ak k ck) (List.replicate k (251 + m))) := fun o => hown.alloc o
      have HS : Hid (List.replicate (k + 1) (251 + m) = List.replicate k (251 + m) ++ [251 + m]) := List.replicate_succ'
      have hL : (List.replicate k (251 + m)).length ≤ 1000 := by rw [List.length_replicate]; omega
      have hsz := hbel.size
      generalize List.replicate k (251 + m) = l at *
      go_wp2_with (at_builtin; refine wpList_append _ rfl (.tmp 10) (.tmp 15) 36 rfl w.heap.size hin Tryd.underlying36 _ l rfl (HO.out _) _ [251 + m] rfl (Bs.one _ (251 + m) h256 _ (by go_num)) (by simp; omega) (by simp; omega) ?_)
      intro v' w' ho' hb' _
      have R : Own w.heap.size w' v' (List.replicate (k + 1) (251 + m)) ∧ Below w.heap.size w w' := ⟨by rw [HS.out]; exact ho', (hbel.alloc hsz _).trans hb'⟩
      clear ho' hb' hown HO HS
      go_wp2
      go_roundw
      case rel => exact ⟨k + 1, by omega, R.1, R.2⟩
      case measure =>
        obtain ⟨a9, c9, e9, _⟩ := R.1.bs.shape
        rw [e9]
        simp [lenV]
        omega
    · obtain rfl : k = n := by omega
      go_wp2
      go_ret
      exact ⟨_, rfl, hown, hbel⟩
set_option maxRecDepth 100000 in
set_option maxHeartbeats 1000000 in
theorem hollow_any (w : World) :
    Calls Tryd.prog 23 #[] w fun e w' => ∃ v', e = .returned v' ∧ Own w.heap.size w' v' (List.replicate 80 211) ∧ Below w.heap.size w w' := by
  have hin := info5
  go_enter Tryd.func23, Tryd.ntmps23
  go_wp2
  go_loopw [1, 2] (fun v i wr => ∃ k : Nat, k ≤ 80 ∧ i = .int .i64 (k : Int) ∧ Own w.heap.size wr v (List.replicate k 211) ∧ Below w.heap.size w wr) (fun _ i _ => 80 - (intOf i).toNat)
  case atStart => exact ⟨0, Nat.zero_le _, rfl, Own.nil _ _, Below.refl _ _⟩
  case round =>
    obtain ⟨k, hk, rfl, hown, hbel⟩ := hrel
    by_cases hlt : k < 80
    · have HO : Hid (∀ o, Own w.heap.size (wr.alloc o) u1 (List.replicate k 211)) := fun o => hown.alloc o
      have HS : Hid (List.replicate (k + 1) 211 = List.replicate k 211 ++ [211]) := List.replicate_succ'
      have hL : (List.replicate k 211).length ≤ 1000 := by rw [List.length_replicate]; omega
      have hsz := hbel.size
      generalize List.replicate k 211 = l at *
      go_wp2_with (at_builtin; refine wpList_append _ rfl (.tmp 7) (.tmp 8) 36 rfl w.heap.size hin Tryd.underlying36 _ l rfl (HO.out _) _ [211] rfl (Bs.one _ 211 (by decide) _ rfl) (by simp; omega) (by simp; omega) ?_)
      intro v' w' ho' hb' _
      have R : Own w.heap.size w' v' (List.replicate (k + 1) 211) ∧ Below w.heap.size w w' := ⟨by rw [HS.out]; exact ho', (hbel.alloc hsz _).trans hb'⟩
      clear ho' hb' hown HO HS
      go_wp2
      go_roundw
      case rel => exact ⟨k + 1, by omega, by go_num, R.1, R.2⟩
      case measure => simp [intOf]; omega
    · obtain rfl : k = 80 := by omega
      go_wp2
      go_ret
      exact ⟨_, rfl, hown, hbel⟩
set_option maxRecDepth 100000 in
set_option maxHeartbeats 1000000 in
theorem unspoilt_any (v : Value) (w : World) (h : Bs w v (List.replicate 80 211)) :
    Calls Tryd.prog 24 #[v] w fun e w' => e = .returned (.bool true) ∧ w' = w := by
  obtain ⟨ao, cap, rfl, hl, hm, _, hc⟩ := h.shape
  obtain ⟨b, off, rfl, hcell⟩ := hc (by simp)
  have HC : Hid (∀ j, j < 80 → w.cell? ⟨b, off + j, none⟩ = some (.int .u8 211)) := fun j hj => by
    have := hcell j (by rw [List.length_replicate]; exact hj)
    rw [List.getElem_replicate] at this
    exact this
  unfold maxLen at hm
  rw [List.length_replicate] at hl ⊢
  clear h hc hcell
  go_enter Tryd.func24, Tryd.ntmps24
  go_wp2
  go_loopw [3] (fun i wr => wr = w ∧ ∃ k : Nat, k ≤ 80 ∧ i = .int .i64 (k : Int)) (fun i _ => 80 - (intOf i).toNat)
  case atStart => exact ⟨rfl, 0, Nat.zero_le _, rfl⟩
  case round =>
    obtain ⟨rfl, k, hk, rfl⟩ := hrel
    by_cases hlt : k < 80
    · have ck := HC.out k hlt
      go_wp2
      go_roundw
      case rel => exact ⟨trivial, k + 1, by omega, by go_num⟩
      case measure => simp [intOf]; omega
    · obtain rfl : k = 80 := by omega
      go_wp2
      go_ret
      exact ⟨rfl, rfl⟩
end Go.Proofs.YtjhgjlnckidjkaaDoor

/-
  LiftEmpty, LiftOwn: data.
-/
namespace Go.Proofs.YtjhgjlnckidjkaaDoor
open Go Go.RowKit
open Wb

set_option maxRecDepth 100000 in
set_option maxHeartbeats 2000000 in
theorem data_any (v : Value) (B : Nat) (ps : List (Rec × Value)) (w : World) (h : Rws B w v ps) (hfew : ps.length ≤ 9000000) :
    Calls Tryd.prog 20 #[v] w fun e w' => ∃ v', e = .returned v' ∧ Rows1 w.heap.size w' v' (ps.map fun p => (p.1.l, p.2)) ∧ Below w.heap.size w w' := by
  have hib := infoBS
  have HR : Hid (∀ w', Below w.heap.size w w' → Rws B w' v ps) := fun w' hb => h.kept hb
  have HLT : Hid (∀ q ∈ ps, ∀ g, q.2.ownBlock = some g → g < w.heap.size) := fun q hq g hg => (World.ownsRow.lt (h.own q hq).row g hg).2
  obtain ⟨ao, cap, rfl, hc, hga, _⟩ := h.recs.shape
  have HGA : Hid (∀ k, k < ps.length → ∃ g, ao = some ⟨g, 0, none⟩) := hga
  unfold maxLen at hc
  clear h hga
  go_enter Tryd.func20, Tryd.ntmps20
  go_wp2
  go_loopw [3, 4] (fun o i wr => ∃ k : Nat, k ≤ ps.length ∧ i = .int .i64 (k : Int) ∧ Rows1 w.heap.size wr o ((ps.take k).map fun p => (p.1.l, p.2)) ∧ Below w.heap.size w wr) (fun _ i _ => ps.length - (intOf i).toNat)
  case atStart => exact ⟨0, Nat.zero_le _, rfl, Rows1.nil _ _, Below.refl _ _⟩
  case round =>
    obtain ⟨k, hk, rfl, hown, hbel⟩ := hrel
    by_cases hlt : k < ps.length
    · obtain ⟨g, rfl⟩ := HGA.out k hlt
      obtain ⟨p, hp⟩ : ∃ p, ps[k]? = some p := ⟨ps[k], List.getElem?_eq_getElem hlt⟩
      have hpe : ps[k] = p := (List.getElem?_eq_some_iff.1 hp).2
      have hpm : p ∈ ps := List.mem_of_getElem? hp
      have hR := HR.out _ hbel
      have c11 : wr.cell? ⟨g, k * 12 + 11, none⟩ = some p.2 := by
        rw [World.ownsRow.cellAt hR.recs.1 (k * 12 + 11) (by omega), rcls_get ps k hlt 11 (by decide), hpe]
        rfl
      have HB : Hid (∀ o, Bs (wr.alloc o) p.2 p.1.l) := fun o => (hR.own p hpm).bs.alloc o
      obtain ⟨pr, pd⟩ := p
      obtain ⟨ad, cd, e5, _⟩ := (hR.own _ hpm).bs.shape
      have e6 : pd = .slice ad pr.l.length cd := e5
      subst e6
      have HTK : Hid ((ps.take (k + 1)).map (fun p => (p.1.l, p.2)) = (ps.take k).map (fun p => (p.1.l, p.2)) ++ [(pr.l, .slice ad pr.l.length cd)]) := by show _ = _; rw [List.take_add_one, hp, List.map_append]; rfl
      have hql : ((ps.take k).map fun p : Rec × Value => (p.1.l, p.2)).length = k := by rw [List.length_map, List.length_take]; omega
      have HOW : Hid (∀ o, Rows1 w.heap.size (wr.alloc o) u3 ((ps.take k).map fun p => (p.1.l, p.2)) ∧ Below w.heap.size w (wr.alloc o) ∧ w.heap.size ≤ (wr.alloc o).heap.size) := fun o => ⟨hown.kept (up0 _ _), up hbel _, (up hbel o).size⟩
      have HOF : Hid (∀ g', u3.ownBlock = some g' → Off g' (.slice ad pr.l.length cd) pr.l) := fun g' hg' => off_block fun e => by
        have h1 := HLT.out _ hpm g' e
        have h2 := (World.ownsRow.lt hown.1 g' hg').1
        omega
      have HC2 : Hid (∀ w' : World, (w'.alloc (.cells #[.slice ad pr.l.length cd] 36)).cell? ⟨w'.heap.size, 0, none⟩ = some (.slice ad pr.l.length cd)) := fun w' => by rw [World.cell?_alloc_new]; rfl
      clear hR hown hbel hpm hp hpe e5 HR HLT HGA
      generalize (ps.take k).map (fun p => (p.1.l, p.2)) = qs at *
      go_wp2_with (at_builtin; refine wpList_append_bs2 _ rfl (.tmp 11) (.tmp 17) 45 rfl w.heap.size hib Tryd.underlying45 _ qs (pr.l, .slice ad pr.l.length cd) rfl (HOW.out _).1 _ rfl (HC2.out _) rfl (HB.out _) HOF.out (by omega) (HOW.out _).2.2 ?_)
      intro v3 w3 hr3 hg3 _
      have R3 : Hid (Rows1 w.heap.size w3 v3 ((ps.take (k + 1)).map fun p => (p.1.l, p.2)) ∧ Below w.heap.size w w3) := ⟨by rw [HTK.out]; exact hr3, (HOW.out _).2.1.trans (grown_below (HOW.out _).1.1 hg3 (HOW.out _).2.2)⟩
      clear hr3 hg3 HOW HOF HC2 HB HTK c11
      go_wp2
      go_roundw
      case rel => exact ⟨k + 1, by omega, by go_num, R3.out.1, R3.out.2⟩
      case measure => simp [intOf]; omega
    · obtain rfl : k = ps.length := by omega
      rw [List.take_length] at hown
      clear HR HLT HGA
      go_wp2
      go_ret
      exact ⟨_, rfl, hown, hbel⟩
end Go.Proofs.YtjhgjlnckidjkaaDoor
