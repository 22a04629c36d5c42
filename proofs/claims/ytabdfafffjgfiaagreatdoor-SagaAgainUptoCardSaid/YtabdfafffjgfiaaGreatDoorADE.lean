import Derived.Deep.CutRange
import Derived.Test.YtabdfafffjgfiaaGreatDoorAD7
namespace Go.Proofs.YtabdfafffjgfiaaGreatDoor
open Go Go.RowKit
open Wb

def FineR (r : Rec) : Prop := r.x.v = 3 ∧ r.x.fit ∧ r.nm.size ≤ 1048576 ∧ r.l.length ≤ 1048576
def AllF (ps : List (Rec × Value)) : Prop := ∀ p ∈ ps, FineR p.1
structure Fits (S : Sg) : Prop where
 id : -9223372036854775808 ≤ S.x.id ∧ S.x.id ≤ 9223372036854775807
 cnt : -9223372036854775808 ≤ S.x.cnt ∧ S.x.cnt ≤ 9223372036854775807
 piv : -9223372036854775808 ≤ S.x.piv ∧ S.x.piv ≤ 9223372036854775807
 beg : -9223372036854775808 ≤ S.x.beg ∧ S.x.beg ≤ 9223372036854775807
 la : -9223372036854775808 ≤ S.x.la ∧ S.x.la ≤ 9223372036854775807
 nx : -9223372036854775808 ≤ S.x.nx ∧ S.x.nx ≤ 9223372036854775807
 fs : -9223372036854775808 ≤ S.x.fs ∧ S.x.fs ≤ 9223372036854775807
 fc : -9223372036854775808 ≤ S.x.fc ∧ S.x.fc ≤ 9223372036854775807
 tr : -9223372036854775808 ≤ S.x.tr ∧ S.x.tr ≤ 9223372036854775807
 ph : -9223372036854775808 ≤ S.x.ph ∧ S.x.ph ≤ 9223372036854775807
 nm : S.nm.size ≤ 1048576
 inp : S.inp.length ≤ 1048576
 fail : S.fail.length ≤ 1048576
 outs : ∀ l ∈ S.outs, l.length ≤ 1048576
 und : ∀ l ∈ S.und, l.length ≤ 1048576
 outsN : S.outs.length ≤ 1048576
 undN : S.und.length ≤ 1048576
theorem fine_st {S : Sg} (hS : Fits S) (k p t l c : Int) (d : List Nat) (hk : -9223372036854775808 ≤ k ∧ k ≤ 9223372036854775807) (hp : -9223372036854775808 ≤ p ∧ p ≤ 9223372036854775807) (ht : -9223372036854775808 ≤ t ∧ t ≤ 9223372036854775807) (hl : -9223372036854775808 ≤ l ∧ l ≤ 9223372036854775807) (hc : -9223372036854775808 ≤ c ∧ c ≤ 9223372036854775807) (hd : d.length ≤ 1048576) : FineR (stR S k p t l c d) := by
 refine ⟨rfl, fun i h1 h9 => ?_, by show (0 : Nat) ≤ _; omega, hd⟩
 obtain rfl | rfl | rfl | rfl | rfl | rfl | rfl | rfl | rfl : i = 1 ∨ i = 2 ∨ i = 3 ∨ i = 4 ∨ i = 5 ∨ i = 6 ∨ i = 7 ∨ i = 8 ∨ i = 9 := by omega
 ·exact hk
 ·exact hS.id
 ·exact hp
 ·exact ht
 ·exact hS.la
 ·exact hl
 ·exact hc
 ·exact ⟨by show (-9223372036854775808 : Int) ≤ 0; omega, by show (0 : Int) ≤ _; omega⟩
 ·exact ⟨by show (-9223372036854775808 : Int) ≤ 0; omega, by show (0 : Int) ≤ _; omega⟩
theorem fine_stB {S : Sg} (hS : Fits S) : FineR (stB S) := by
 refine ⟨rfl, fun i h1 h9 => ?_, hS.nm, hS.inp⟩
 obtain rfl | rfl | rfl | rfl | rfl | rfl | rfl | rfl | rfl : i = 1 ∨ i = 2 ∨ i = 3 ∨ i = 4 ∨ i = 5 ∨ i = 6 ∨ i = 7 ∨ i = 8 ∨ i = 9 := by omega
 ·exact ⟨by show (-9223372036854775808 : Int) ≤ 1; omega, by show (1 : Int) ≤ _; omega⟩
 ·exact hS.id
 ·exact ⟨by show (-9223372036854775808 : Int) ≤ 0; omega, by show (0 : Int) ≤ _; omega⟩
 ·exact ⟨by show (-9223372036854775808 : Int) ≤ 0; omega, by show (0 : Int) ≤ _; omega⟩
 ·exact hS.beg
 ·exact ⟨by show (-9223372036854775808 : Int) ≤ 0; omega, by show (0 : Int) ≤ _; omega⟩
 ·exact ⟨by show (-9223372036854775808 : Int) ≤ 0; omega, by show (0 : Int) ≤ _; omega⟩
 ·exact hS.cnt
 ·exact hS.piv
theorem wrap_in (z : Int) : -9223372036854775808 ≤ IntKind.i64.wrap z ∧ IntKind.i64.wrap z ≤ 9223372036854775807 := by
 unfold IntKind.wrap
 simp [IntKind.bits, IntKind.signed]
 omega
def undW (S : Sg) : Nat → List (List Nat) → List Rec
 | _, [] => []
 | n, o :: r => stR S 5 (IntKind.i64.wrap (IntKind.i64.wrap (S.x.fs - 1) - (n : Int))) 1 0 0 [] :: stR S 6 (IntKind.i64.wrap (IntKind.i64.wrap (S.x.fs - 1) - (n : Int))) 0 0 0 o :: undW S (n + 1) r
def failW (S : Sg) : List Rec := if S.x.fwd then [] else stR S 2 S.x.fs 1 0 0 [] :: stR S 4 S.x.fs 0 1 S.x.fc S.fail :: undW S 0 S.und
def trW (S : Sg) : Int := if S.x.fwd then S.x.nx else IntKind.i64.wrap (S.x.nx - 1)
def storyW (S : Sg) : List Rec := (stB S :: outL S 0 S.outs) ++ failW S ++ trL S (trK S) (trW S) 0 S.x.tr.toNat ++ endL S
set_option maxRecDepth 100000 in
set_option maxHeartbeats 16000000 in
theorem rxtold_W (S : Sg) (h : SH) (w : World) (k : SgAt w S h) (hil : S.inp.length ≤ 1048576) (hfl : S.fail.length ≤ 1048576) (hso : ∀ l ∈ S.outs, l.length ≤ 1048576) (hsu : ∀ l ∈ S.und, l.length ≤ 1048576) (htr : 0 ≤ S.x.tr ∧ S.x.tr ≤ 1000) (hph : 1 ≤ S.x.ph ∧ S.x.ph ≤ 4) (hol : S.outs.length ≤ 32) (hul : S.und.length ≤ 32) :
  Calls Tryz.prog 83 #[sv S h] w fun e w' => ∃ v ps, e = .returned v ∧ OutT w.heap.size w' v ps ∧ ps.map Prod.fst = storyW S ∧ Below w.heap.size w w' := by
 have hin := infoR12
 have HBY : Hid (∀ (v : Value) (l : List Nat) (w' : World), Bs w' v l → l.length ≤ 1048576 → Calls Tryz.prog 50 #[v] w' fun e w'' => ∃ a, ∃ c : Nat, e = .returned (.slice a l.length c) ∧ Own w'.heap.size w'' (.slice a l.length c) l ∧ Below w'.heap.size w' w'') := fun v l w' hb hl => rxbytes_any v l w' hb (by omega)
 have HKP : Hid (∀ w', Below w.heap.size w w' → SgAt w' S h) := fun w' hb => k.kept hb
 have HUO : Hid (∀ j (hj : j < S.outs.length), ∃ b off d, h.ao = some ⟨b, off, none⟩ ∧ b < w.heap.size ∧ (∀ w', Below w.heap.size w w' → w'.cell? ⟨b, off + j, none⟩ = some d ∧ Bs w' d S.outs[j]) ∧ S.outs[j].length ≤ 1048576) := fun j hj => by
  obtain ⟨a1, p1, e1, _, h1⟩ := k.outs.shape
  simp only [Value.slice.injEq] at e1
  obtain ⟨rfl, _, rfl⟩ := e1
  obtain ⟨b, off, r1, r2⟩ := h1 (by intro e; rw [e] at hj; simp at hj)
  obtain ⟨d, q1, q2⟩ := r2 j hj
  exact ⟨b, off, d, r1, World.block_lt_of_cell? _ _ q1, fun w' hb => ⟨(hb.cell (World.block_lt_of_cell? _ _ q1)).trans q1, q2.kept hb⟩, hso _ (List.getElem_mem hj)⟩
 have HUU : Hid (∀ j (hj : j < S.und.length), ∃ b off d, h.au = some ⟨b, off, none⟩ ∧ b < w.heap.size ∧ (∀ w', Below w.heap.size w w' → w'.cell? ⟨b, off + j, none⟩ = some d ∧ Bs w' d S.und[j]) ∧ S.und[j].length ≤ 1048576) := fun j hj => by
  obtain ⟨a1, p1, e1, _, h1⟩ := k.und.shape
  simp only [Value.slice.injEq] at e1
  obtain ⟨rfl, _, rfl⟩ := e1
  obtain ⟨b, off, r1, r2⟩ := h1 (by intro e; rw [e] at hj; simp at hj)
  obtain ⟨d, q1, q2⟩ := r2 j hj
  exact ⟨b, off, d, r1, World.block_lt_of_cell? _ _ q1, fun w' hb => ⟨(hb.cell (World.block_lt_of_cell? _ _ q1)).trans q1, q2.kept hb⟩, hsu _ (List.getElem_mem hj)⟩
 obtain ⟨D, hD, hL, hE⟩ := sv_letter S h
 rw [hD]
 have HL : Hid _ := hL
 have HE : Hid (D = scl S h) := hE
 have HX : Hid (∀ t, (w.alloc (.cells D.toArray t)).rangeAt w.heap.size 0 D ∧ Below w.heap.size w (w.alloc (.cells D.toArray t))) := fun t => boxed w D t
 clear hD hL hE 
 have HX1 : Hid (LB (w.alloc (.cells D.toArray 25)) w.heap.size 25 D ∧ Below w.heap.size w (w.alloc (.cells D.toArray 25))) := ⟨lb_new w D _, up0 _ _⟩
 have HC : Hid (∀ (W : World) (j : Nat) (v : Value), LB W w.heap.size 25 D → (scl S h)[j]? = some v → W.cell? ⟨w.heap.size, j, none⟩ = some v) := fun W j v L e => L.cell j v (by rw [HE.out]; exact e)
 have hT : (S.x.tr.toNat : Int) = S.x.tr := by omega
 obtain ⟨KK, hKK⟩ : ∃ KK, trK S = KK := ⟨_, rfl⟩
 obtain ⟨TT, hTT⟩ : ∃ TT, trW S = TT := ⟨_, rfl⟩
 have HST : Hid (storyW S = (stB S :: outL S 0 S.outs) ++ failW S ++ trL S KK TT 0 S.x.tr.toNat ++ endL S) := by show _ = _; rw [← hKK, ← hTT]; rfl
 have HKT : Hid ((S.x.fwd = true → KK = 2 ∧ TT = S.x.nx) ∧ (S.x.fwd = false → KK = 5 ∧ TT = IntKind.i64.wrap (S.x.nx - 1))) := by
  constructor <;> (intro e; rw [← hKK, ← hTT]; simp [trK, trW, e])
 have hff : S.x.fwd = true → failW S = [] := fun e => by unfold failW; rw [if_pos e]
 clear HX k hso hsu hKK hTT
 go_enter Tryz.func83, Tryz.ntmps83
 go_wp2
 generalize w.alloc (.cells D.toArray 25) = W0 at HX1 ⊢
 have H1 : Hid (LB W0.drew w.heap.size 25 D ∧ Below w.heap.size w W0.drew) := ⟨HX1.out.1.kept (Below.drew (Below.refl _ _)), Below.drew HX1.out.2⟩
 have HCF : Hid (∀ W, LB W w.heap.size 25 D → W.cell? ⟨w.heap.size, 0, none⟩ = some (.int .i64 S.x.id) ∧ W.cell? ⟨w.heap.size, 4, none⟩ = some (.int .i64 S.x.beg) ∧ W.cell? ⟨w.heap.size, 2, none⟩ = some (.int .i64 S.x.cnt) ∧ W.cell? ⟨w.heap.size, 3, none⟩ = some (.int .i64 S.x.piv) ∧ W.cell? ⟨w.heap.size, 1, none⟩ = some (.string S.nm) ∧ W.cell? ⟨w.heap.size, 6, none⟩ = some (.slice h.ai S.inp.length h.ci)) := fun W L => ⟨HC.out W 0 _ L rfl, HC.out W 4 _ L rfl, HC.out W 2 _ L rfl, HC.out W 3 _ L rfl, HC.out W 1 _ L rfl, HC.out W 6 _ L rfl⟩
 refine wp_region_held_drew (S := fun w' : World => w'.cell? ⟨w.heap.size, 0, none⟩ = some (.int .i64 S.x.id) ∧ w'.cell? ⟨w.heap.size, 4, none⟩ = some (.int .i64 S.x.beg) ∧ w'.cell? ⟨w.heap.size, 2, none⟩ = some (.int .i64 S.x.cnt) ∧ w'.cell? ⟨w.heap.size, 3, none⟩ = some (.int .i64 S.x.piv) ∧ w'.cell? ⟨w.heap.size, 1, none⟩ = some (.string S.nm) ∧ w'.cell? ⟨w.heap.size, 6, none⟩ = some (.slice h.ai S.inp.length h.ci)) (by kernel_rfl) (HCF.out _ H1.out.1) (fun hH => ?_)
 clear HX1
 generalize W0.drew = V1 at *
 refine zqk 0 rfl hH ?_
 simp only [zq]
 refine zqk 1 rfl hH ?_
 simp only [zq]
 refine zqk 2 rfl hH ?_
 simp only [zq]
 refine zqk 3 rfl hH ?_
 simp only [zq]
 refine zqk 4 rfl hH ?_
 simp only [zq]
 refine zqk 5 rfl hH ?_
 simp only [zq]
 refine zqk 6 rfl hH ?_
 simp only [zq]
 refine zqk 7 rfl hH ?_
 simp only [zq]
 refine zqk 8 rfl hH ?_
 simp only [zq]
 refine zqk 9 rfl hH ?_
 simp only [zq]
 refine zqk 10 rfl hH ?_
 simp only [zq]
 refine zqk 11 rfl hH ?_
 simp only [zq]
 refine zqr 12 rfl (fun K hK => ?_)
 go_simp
 refine (HBY.out _ _ _ (HKP.out _ H1.out.2).inp hil).mono ?_
 rintro e w2 ⟨a2, c2, rfl, o2, b2⟩
 have H2 : Hid (LB w2 w.heap.size 25 D ∧ Below w.heap.size w w2 ∧ Own w.heap.size w2 (.slice a2 S.inp.length c2) S.inp ∧ w.heap.size ≤ w2.heap.size) := ⟨H1.out.1.kept b2, andThen H1.out.2 b2, own_weak o2 H1.out.2.size, (andThen H1.out.2 b2).size⟩
 refine hK.out _ _ (HCF.out _ H2.out.1) (fun hH2 => ?_)
 clear hK K hH
 have hH := hH2
 clear hH2
 clear b2 o2 H1
 refine zqk 13 rfl hH ?_
 simp only [zq]
 refine zqr 14 rfl (fun K hK => ?_)
 go_simp
 have H3 : Hid (OutT w.heap.size (w2.alloc (.cells #[.int .i64 3, .int .i64 1, .int .i64 S.x.id, .int .i64 0, .int .i64 0, .int .i64 S.x.beg, .int .i64 0, .int .i64 0, .int .i64 S.x.cnt, .int .i64 S.x.piv, .string S.nm, .slice a2 S.inp.length c2] 37)) (.slice (some ⟨w2.heap.size, 0, none⟩) 1 1) [(stB S, .slice a2 S.inp.length c2)] ∧ LB (w2.alloc (.cells #[.int .i64 3, .int .i64 1, .int .i64 S.x.id, .int .i64 0, .int .i64 0, .int .i64 S.x.beg, .int .i64 0, .int .i64 0, .int .i64 S.x.cnt, .int .i64 S.x.piv, .string S.nm, .slice a2 S.inp.length c2] 37)) w.heap.size 25 D ∧ Below w.heap.size w (w2.alloc (.cells #[.int .i64 3, .int .i64 1, .int .i64 S.x.id, .int .i64 0, .int .i64 0, .int .i64 S.x.beg, .int .i64 0, .int .i64 0, .int .i64 S.x.cnt, .int .i64 S.x.piv, .string S.nm, .slice a2 S.inp.length c2] 37))) := ⟨⟨World.ownsRow_lit w2 #[.int .i64 3, .int .i64 1, .int .i64 S.x.id, .int .i64 0, .int .i64 0, .int .i64 S.x.beg, .int .i64 0, .int .i64 0, .int .i64 S.x.cnt, .int .i64 S.x.piv, .string S.nm, .slice a2 S.inp.length c2] 1 H2.out.2.2.2 (by simp [maxLen]) rfl, fun p hp => by obtain rfl := List.mem_singleton.1 hp; exact H2.out.2.2.1.kept (up0 _ _)⟩, H2.out.1.kept (up0 _ _), up H2.out.2.1 _⟩
 refine hK.out _ _ (HCF.out _ H3.out.2.1) (fun hH2 => ?_)
 clear hK K hH
 have hH := hH2
 clear hH2
 refine zqk 15 rfl hH ?_
 simp only [zq]
 refine wpAnyH_done (by kernel_rfl) ?_ _
 clear hH H2 HCF hil
 generalize w2.alloc (.cells #[.int .i64 3, .int .i64 1, .int .i64 S.x.id, .int .i64 0, .int .i64 0, .int .i64 S.x.beg, .int .i64 0, .int .i64 0, .int .i64 S.x.cnt, .int .i64 S.x.piv, .string S.nm, .slice a2 S.inp.length c2] 37) = W3 at *
 generalize w2.heap.size = g3 at *
 go_wp2
 go_loopw [3, 4] (fun l i wr => ∃ (n : Nat) (ps : List (Rec × Value)), i = .int .i64 (n : Int) ∧ n ≤ S.outs.length ∧ OutT w.heap.size wr l ps ∧ ps.map Prod.fst ++ outL S n (S.outs.drop n) = stB S :: outL S 0 S.outs ∧ ps.length ≤ 1 + 2 * n ∧ LB wr w.heap.size 25 D ∧ Below w.heap.size w wr) (fun _ i _ => S.outs.length - (intOf i).toNat)
 case atStart => exact ⟨0, _, rfl, Nat.zero_le _, H3.out.1, by simp, by simp, H3.out.2.1, H3.out.2.2⟩
 case round =>
  obtain ⟨n, ps, rfl, hn2, ho, he, hpl, lb, bl⟩ := hrel
  have HR : Hid (OutT w.heap.size wr u3 ps ∧ LB wr w.heap.size 25 D ∧ Below w.heap.size w wr) := ⟨ho, lb, bl⟩
  have HEQ : Hid (ps.map Prod.fst ++ outL S n (S.outs.drop n) = stB S :: outL S 0 S.outs) := he
  clear ho lb bl he H3
  have c11 := HC.out _ 11 (.slice h.ao S.outs.length h.co) HR.out.2.1 rfl
  by_cases hlt2 : n < S.outs.length
  ·obtain ⟨b, off, d, hau, hbl, qw, q3⟩ := HUO.out n hlt2
   obtain ⟨o, hoo⟩ : ∃ o, S.outs[n] = o := ⟨_, rfl⟩
   have HDR : Hid (S.outs.drop n = o :: S.outs.drop (n + 1)) := by show _ = _; rw [List.drop_eq_getElem_cons hlt2, hoo]
   rw [hoo] at qw q3
   obtain ⟨ad, cd, rfl, _⟩ := (qw _ HR.out.2.2).2.shape
   have HQW : Hid _ := qw
   clear hoo qw hbl
   rw [hau] at c11
   have HC11 : Hid (∀ W, LB W w.heap.size 25 D → W.cell? ⟨w.heap.size, 11, none⟩ = some (.slice (some ⟨b, off, none⟩) S.outs.length h.co)) := fun W L => by rw [← hau]; exact HC.out W 11 _ L rfl
   have c0 := HC.out _ 0 (.int .i64 S.x.id) HR.out.2.1 rfl
   have c5 := HC.out _ 5 (.int .i64 S.x.la) HR.out.2.1 rfl
   go_wp2_with (at_builtin; refine wpList_append_recT rfl (.tmp 31) (.tmp 38) 29 rfl w.heap.size hin Tryz.underlying29 u3 ps (stR S 2 ((n : Int)) 1 0 0 [], .slice none 0 0) rfl (HR.out.1.kept (up0 _ _)) _ rfl (lb_new wr [.int .i64 3, .int .i64 2, .int .i64 S.x.id, .int .i64 (n : Int), .int .i64 1, .int .i64 S.x.la, .int .i64 0, .int .i64 0, .int .i64 0, .int .i64 0, .string ⟨#[]⟩, .slice none 0 0] 37).range (Own.nil _ _) (by omega) (up HR.out.2.2 _).size ?_)
   intro v4 w4 o4 b4 g4
   have H4 : Hid (OutT w.heap.size w4 v4 (ps ++ [(stR S 2 ((n : Int)) 1 0 0 [], .slice none 0 0)]) ∧ LB w4 w.heap.size 25 D ∧ Below w.heap.size w w4) := ⟨o4, lb_grown (HR.out.2.1.kept (up0 _ _)) (HR.out.1.kept (up0 _ _)) g4 (by decide), (up HR.out.2.2 _).trans b4⟩
   clear o4 b4 g4 HR
   clear c0 c5 c11
   go_wp2
   have HD0 : Hid (OutT w.heap.size w4.drew v4 (ps ++ [(stR S 2 ((n : Int)) 1 0 0 [], .slice none 0 0)]) ∧ LB w4.drew w.heap.size 25 D ∧ Below w.heap.size w w4.drew) := ⟨H4.out.1.kept (Below.drew (Below.refl _ _)), H4.out.2.1.kept (Below.drew (Below.refl _ _)), Below.drew H4.out.2.2⟩
   clear H4
   refine wp_region_held_drew (S := fun w' : World => w'.cell? ⟨w.heap.size, 0, none⟩ = some (.int .i64 S.x.id) ∧ w'.cell? ⟨w.heap.size, 5, none⟩ = some (.int .i64 S.x.la) ∧ w'.cell? ⟨w.heap.size, 11, none⟩ = some (.slice (some ⟨b, off, none⟩) S.outs.length h.co) ∧ w'.cell? ⟨b, off + n, none⟩ = some (.slice ad o.length cd)) (by kernel_rfl) ⟨HC.out _ 0 _ HD0.out.2.1 rfl, HC.out _ 5 _ HD0.out.2.1 rfl, HC11.out _ HD0.out.2.1, (HQW.out _ HD0.out.2.2).1⟩ (fun hH => ?_)
   generalize w4.drew = VD at *
   refine zqk 0 rfl hH ?_
   simp only [zq]
   refine zqk 1 rfl hH ?_
   simp only [zq]
   refine zqk 2 rfl hH ?_
   simp only [zq]
   refine zqk 3 rfl hH ?_
   simp only [zq]
   refine zqk 4 rfl hH ?_
   simp only [zq]
   refine zqk 5 rfl hH ?_
   simp only [zq]
   refine zqk 6 rfl hH ?_
   simp only [zq]
   refine zqk 7 rfl hH ?_
   simp only [zq]
   refine zqk 8 rfl hH ?_
   simp only [zq]
   refine zqk 9 rfl hH ?_
   simp only [zq]
   refine zqk 10 rfl hH ?_
   simp only [zq]
   refine zqr 11 rfl (fun K hK => ?_)
   go_simp
   refine (HBY.out _ _ _ (HQW.out _ HD0.out.2.2).2 q3).mono ?_
   rintro e xD ⟨aD, cD, rfl, oD, bD⟩
   have HD1 : Hid ((OutT w.heap.size xD v4 (ps ++ [(stR S 2 ((n : Int)) 1 0 0 [], .slice none 0 0)]) ∧ LB xD w.heap.size 25 D ∧ Below w.heap.size w xD) ∧ Own w.heap.size xD (.slice aD o.length cD) o) := ⟨⟨HD0.out.1.kept bD, HD0.out.2.1.kept bD, andThen HD0.out.2.2 bD⟩, own_weak oD HD0.out.2.2.size⟩
   refine hK.out _ _ ⟨HC.out _ 0 _ HD1.out.1.2.1 rfl, HC.out _ 5 _ HD1.out.1.2.1 rfl, HC11.out _ HD1.out.1.2.1, (HQW.out _ HD1.out.1.2.2).1⟩ (fun hH2 => ?_)
   clear hK K hH
   have hH := hH2
   clear hH2
   clear bD oD HD0
   refine zqk 12 rfl hH ?_
   simp only [zq]
   refine zqr 13 rfl (fun K hK => ?_)
   go_simp
   have HD2 : Hid ((OutT w.heap.size (xD.alloc (.cells #[.int .i64 3, .int .i64 3, .int .i64 S.x.id, .int .i64 (n : Int), .int .i64 0, .int .i64 S.x.la, .int .i64 0, .int .i64 0, .int .i64 0, .int .i64 0, .string ⟨#[]⟩, .slice aD o.length cD] 37)) v4 (ps ++ [(stR S 2 ((n : Int)) 1 0 0 [], .slice none 0 0)]) ∧ LB (xD.alloc (.cells #[.int .i64 3, .int .i64 3, .int .i64 S.x.id, .int .i64 (n : Int), .int .i64 0, .int .i64 S.x.la, .int .i64 0, .int .i64 0, .int .i64 0, .int .i64 0, .string ⟨#[]⟩, .slice aD o.length cD] 37)) w.heap.size 25 D ∧ Below w.heap.size w (xD.alloc (.cells #[.int .i64 3, .int .i64 3, .int .i64 S.x.id, .int .i64 (n : Int), .int .i64 0, .int .i64 S.x.la, .int .i64 0, .int .i64 0, .int .i64 0, .int .i64 0, .string ⟨#[]⟩, .slice aD o.length cD] 37))) ∧ Own w.heap.size (xD.alloc (.cells #[.int .i64 3, .int .i64 3, .int .i64 S.x.id, .int .i64 (n : Int), .int .i64 0, .int .i64 S.x.la, .int .i64 0, .int .i64 0, .int .i64 0, .int .i64 0, .string ⟨#[]⟩, .slice aD o.length cD] 37)) (.slice aD o.length cD) o) := ⟨⟨HD1.out.1.1.kept (up0 _ _), HD1.out.1.2.1.kept (up0 _ _), up HD1.out.1.2.2 _⟩, HD1.out.2.kept (up0 _ _)⟩
   refine hK.out _ _ ⟨HC.out _ 0 _ HD2.out.1.2.1 rfl, HC.out _ 5 _ HD2.out.1.2.1 rfl, HC11.out _ HD2.out.1.2.1, (HQW.out _ HD2.out.1.2.2).1⟩ (fun hH2 => ?_)
   clear hK K hH
   have hH := hH2
   clear hH2
   have HCE : Hid ((xD.alloc (.cells #[.int .i64 3, .int .i64 3, .int .i64 S.x.id, .int .i64 (n : Int), .int .i64 0, .int .i64 S.x.la, .int .i64 0, .int .i64 0, .int .i64 0, .int .i64 0, .string ⟨#[]⟩, .slice aD o.length cD] 37)).rangeAt xD.heap.size 0 (rcl (stR S 3 ((n : Int)) 0 0 0 o, .slice aD o.length cD))) := (lb_new xD [.int .i64 3, .int .i64 3, .int .i64 S.x.id, .int .i64 (n : Int), .int .i64 0, .int .i64 S.x.la, .int .i64 0, .int .i64 0, .int .i64 0, .int .i64 0, .string ⟨#[]⟩, .slice aD o.length cD] 37).range
   refine zqr 14 rfl (fun K hK => ?_)
   refine step_append_rec rfl (.tmp 40) (.tmp 53) 29 rfl w.heap.size hin Tryz.underlying29 v4 (ps ++ [(stR S 2 ((n : Int)) 1 0 0 [], .slice none 0 0)]) (stR S 3 ((n : Int)) 0 0 0 o, .slice aD o.length cD) rfl HD2.out.1.1 xD.heap.size rfl HCE.out HD2.out.2 (by simp; omega) HD2.out.1.2.2.size ?_
   intro vE wE oE bE gE
   have H5 : Hid (OutT w.heap.size wE vE ((ps ++ [(stR S 2 ((n : Int)) 1 0 0 [], .slice none 0 0)]) ++ [(stR S 3 ((n : Int)) 0 0 0 o, .slice aD o.length cD)]) ∧ LB wE w.heap.size 25 D ∧ Below w.heap.size w wE) := ⟨oE, lb_grown HD2.out.1.2.1 HD2.out.1.1 gE (by decide), HD2.out.1.2.2.trans bE⟩
   refine hK.out _ _ ⟨HC.out _ 0 _ H5.out.2.1 rfl, HC.out _ 5 _ H5.out.2.1 rfl, HC11.out _ H5.out.2.1, (HQW.out _ H5.out.2.2).1⟩ (fun hH2 => ?_)
   clear hK K hH
   have hH := hH2
   clear hH2
   clear oE bE gE HD1 HD2 HCE
   simp only [zq]
   refine zqk 15 rfl hH ?_
   simp only [zq]
   refine wpAnyH_done (by kernel_rfl) ?_ _
   clear hH
   go_wp2
   go_roundw
   case rel => exact ⟨n + 1, _, by go_num, by omega, H5.out.1, by rw [← HEQ.out, HDR.out]; simp [outL], by simp; omega, H5.out.2.1, H5.out.2.2⟩
   case measure => simp [intOf]; omega
  ·obtain rfl : n = S.outs.length := by omega
   have hfin : ps.map Prod.fst = stB S :: outL S 0 S.outs := by
    have := HEQ.out
    rw [List.drop_length] at this
    simpa [outL] using this
   have HF : Hid (ps.map Prod.fst = stB S :: outL S 0 S.outs) := hfin
   clear hfin HEQ HUO
   have c8 := HC.out _ 8 (.int .i64 S.x.nx) HR.out.2.1 rfl
   have c7 := HC.out _ 7 (.int .i64 S.x.ph) HR.out.2.1 rfl
   go_upto_region 9 with fail
   go_cut [64] from 57 to 64 (fun c wx => c = .bool (!S.x.fwd) ∧ wx = wr)
   case first =>
    have hp4 : S.x.ph = 1 ∨ S.x.ph = 2 ∨ S.x.ph = 3 ∨ S.x.ph = 4 := by omega
    rcases hp4 with hp | hp | hp | hp
    all_goals
     have hfw : (!S.x.fwd) = (S.x.ph == 2 || S.x.ph == 4) := by unfold SN.fwd; rw [hp]; rfl
     rw [hp] at c7 hfw
     go_wp2_with fail
     go_meet
     exact ⟨by rw [hfw]; rfl, rfl⟩
   case rest =>
   obtain ⟨rfl, rfl⟩ := hcut
   clear c7
   go_upto_if 64 with fail
   go_cut [3, 5, 6] from 7 to 131 (fun l kk a wx => ∃ ps2, kk = .int .i64 KK ∧ a = .int .i64 TT ∧ OutT w.heap.size wx l ps2 ∧ ps2.map Prod.fst = (stB S :: outL S 0 S.outs) ++ failW S ∧ ps2.length ≤ 200 ∧ LB wx w.heap.size 25 D ∧ Below w.heap.size w wx)
   case first =>
    cases hfw : S.x.fwd with
    | true =>
     obtain ⟨hk1, hk2⟩ := HKT.out.1 hfw
     have hfe := hff hfw
     go_wp2_with fail
     go_meet
     exact ⟨ps, by rw [hk1], by rw [hk2], HR.out.1, by rw [HF.out, hfe]; simp, by omega, HR.out.2.1, HR.out.2.2⟩
    | false =>
     obtain ⟨hk1, hk2⟩ := HKT.out.2 hfw
     have HFL : Hid (failW S = stR S 2 S.x.fs 1 0 0 [] :: stR S 4 S.x.fs 0 1 S.x.fc S.fail :: undW S 0 S.und) := by show _ = _; unfold failW; rw [if_neg (by simp [hfw])]
     obtain ⟨T0, i0⟩ : ∃ T0, IntKind.i64.wrap (S.x.nx - 1) = T0 := ⟨_, rfl⟩
     rw [i0] at hk2
     obtain ⟨F0, i1⟩ : ∃ F0, IntKind.i64.wrap (S.x.fs - 1) = F0 := ⟨_, rfl⟩
     have HI1 : Hid (IntKind.i64.wrap (S.x.fs - 1) = F0) := i1
     have c0 := HC.out _ 0 (.int .i64 S.x.id) HR.out.2.1 rfl
     have c5 := HC.out _ 5 (.int .i64 S.x.la) HR.out.2.1 rfl
     have c13 := HC.out _ 13 (.int .i64 S.x.fs) HR.out.2.1 rfl
     go_wp2_with (at_builtin; refine wpList_append_recT rfl (.tmp 65) (.tmp 73) 29 rfl w.heap.size hin Tryz.underlying29 u3 ps (stR S 2 S.x.fs 1 0 0 [], .slice none 0 0) rfl (HR.out.1.kept (up0 _ _)) _ rfl (lb_new wc [.int .i64 3, .int .i64 2, .int .i64 S.x.id, .int .i64 S.x.fs, .int .i64 1, .int .i64 S.x.la, .int .i64 0, .int .i64 0, .int .i64 0, .int .i64 0, .string ⟨#[]⟩, .slice none 0 0] 37).range (Own.nil _ _) (by omega) (up HR.out.2.2 _).size ?_)
     intro v4 w4 o4 b4 g4
     have H4 : Hid (OutT w.heap.size w4 v4 (ps ++ [(stR S 2 S.x.fs 1 0 0 [], .slice none 0 0)]) ∧ LB w4 w.heap.size 25 D ∧ Below w.heap.size w w4) := ⟨o4, lb_grown (HR.out.2.1.kept (up0 _ _)) (HR.out.1.kept (up0 _ _)) g4 (by decide), (up HR.out.2.2 _).trans b4⟩
     clear o4 b4 g4 HR
     clear c0 c5 c13 c8 c11
     go_wp2
     have HD0 : Hid (OutT w.heap.size w4.drew v4 (ps ++ [(stR S 2 S.x.fs 1 0 0 [], .slice none 0 0)]) ∧ LB w4.drew w.heap.size 25 D ∧ Below w.heap.size w w4.drew) := ⟨H4.out.1.kept (Below.drew (Below.refl _ _)), H4.out.2.1.kept (Below.drew (Below.refl _ _)), Below.drew H4.out.2.2⟩
     clear H4
     refine wp_region_held_drew (S := fun w' : World => w'.cell? ⟨w.heap.size, 0, none⟩ = some (.int .i64 S.x.id) ∧ w'.cell? ⟨w.heap.size, 5, none⟩ = some (.int .i64 S.x.la) ∧ w'.cell? ⟨w.heap.size, 13, none⟩ = some (.int .i64 S.x.fs) ∧ w'.cell? ⟨w.heap.size, 14, none⟩ = some (.int .i64 S.x.fc) ∧ w'.cell? ⟨w.heap.size, 15, none⟩ = some (.slice h.af S.fail.length h.cf)) (by kernel_rfl) ⟨HC.out _ 0 _ HD0.out.2.1 rfl, HC.out _ 5 _ HD0.out.2.1 rfl, HC.out _ 13 _ HD0.out.2.1 rfl, HC.out _ 14 _ HD0.out.2.1 rfl, HC.out _ 15 _ HD0.out.2.1 rfl⟩ (fun hH => ?_)
     generalize w4.drew = VD at *
     refine zqk 0 rfl hH ?_
     simp only [zq]
     refine zqk 1 rfl hH ?_
     simp only [zq]
     refine zqk 2 rfl hH ?_
     simp only [zq]
     refine zqk 3 rfl hH ?_
     simp only [zq]
     refine zqk 4 rfl hH ?_
     simp only [zq]
     refine zqk 5 rfl hH ?_
     simp only [zq]
     refine zqk 6 rfl hH ?_
     simp only [zq]
     refine zqk 7 rfl hH ?_
     simp only [zq]
     refine zqk 8 rfl hH ?_
     simp only [zq]
     refine zqk 9 rfl hH ?_
     simp only [zq]
     refine zqk 10 rfl hH ?_
     simp only [zq]
     refine zqr 11 rfl (fun K hK => ?_)
     go_simp
     refine (HBY.out _ _ _ (HKP.out _ HD0.out.2.2).fail hfl).mono ?_
     rintro e xD ⟨aD, cD, rfl, oD, bD⟩
     have HD1 : Hid ((OutT w.heap.size xD v4 (ps ++ [(stR S 2 S.x.fs 1 0 0 [], .slice none 0 0)]) ∧ LB xD w.heap.size 25 D ∧ Below w.heap.size w xD) ∧ Own w.heap.size xD (.slice aD S.fail.length cD) S.fail) := ⟨⟨HD0.out.1.kept bD, HD0.out.2.1.kept bD, andThen HD0.out.2.2 bD⟩, own_weak oD HD0.out.2.2.size⟩
     refine hK.out _ _ ⟨HC.out _ 0 _ HD1.out.1.2.1 rfl, HC.out _ 5 _ HD1.out.1.2.1 rfl, HC.out _ 13 _ HD1.out.1.2.1 rfl, HC.out _ 14 _ HD1.out.1.2.1 rfl, HC.out _ 15 _ HD1.out.1.2.1 rfl⟩ (fun hH2 => ?_)
     clear hK K hH
     have hH := hH2
     clear hH2
     clear bD oD HD0
     refine zqk 12 rfl hH ?_
     simp only [zq]
     refine zqr 13 rfl (fun K hK => ?_)
     go_simp
     have HD2 : Hid ((OutT w.heap.size (xD.alloc (.cells #[.int .i64 3, .int .i64 4, .int .i64 S.x.id, .int .i64 S.x.fs, .int .i64 0, .int .i64 S.x.la, .int .i64 1, .int .i64 S.x.fc, .int .i64 0, .int .i64 0, .string ⟨#[]⟩, .slice aD S.fail.length cD] 37)) v4 (ps ++ [(stR S 2 S.x.fs 1 0 0 [], .slice none 0 0)]) ∧ LB (xD.alloc (.cells #[.int .i64 3, .int .i64 4, .int .i64 S.x.id, .int .i64 S.x.fs, .int .i64 0, .int .i64 S.x.la, .int .i64 1, .int .i64 S.x.fc, .int .i64 0, .int .i64 0, .string ⟨#[]⟩, .slice aD S.fail.length cD] 37)) w.heap.size 25 D ∧ Below w.heap.size w (xD.alloc (.cells #[.int .i64 3, .int .i64 4, .int .i64 S.x.id, .int .i64 S.x.fs, .int .i64 0, .int .i64 S.x.la, .int .i64 1, .int .i64 S.x.fc, .int .i64 0, .int .i64 0, .string ⟨#[]⟩, .slice aD S.fail.length cD] 37))) ∧ Own w.heap.size (xD.alloc (.cells #[.int .i64 3, .int .i64 4, .int .i64 S.x.id, .int .i64 S.x.fs, .int .i64 0, .int .i64 S.x.la, .int .i64 1, .int .i64 S.x.fc, .int .i64 0, .int .i64 0, .string ⟨#[]⟩, .slice aD S.fail.length cD] 37)) (.slice aD S.fail.length cD) S.fail) := ⟨⟨HD1.out.1.1.kept (up0 _ _), HD1.out.1.2.1.kept (up0 _ _), up HD1.out.1.2.2 _⟩, HD1.out.2.kept (up0 _ _)⟩
     refine hK.out _ _ ⟨HC.out _ 0 _ HD2.out.1.2.1 rfl, HC.out _ 5 _ HD2.out.1.2.1 rfl, HC.out _ 13 _ HD2.out.1.2.1 rfl, HC.out _ 14 _ HD2.out.1.2.1 rfl, HC.out _ 15 _ HD2.out.1.2.1 rfl⟩ (fun hH2 => ?_)
     clear hK K hH
     have hH := hH2
     clear hH2
     have HCE : Hid ((xD.alloc (.cells #[.int .i64 3, .int .i64 4, .int .i64 S.x.id, .int .i64 S.x.fs, .int .i64 0, .int .i64 S.x.la, .int .i64 1, .int .i64 S.x.fc, .int .i64 0, .int .i64 0, .string ⟨#[]⟩, .slice aD S.fail.length cD] 37)).rangeAt xD.heap.size 0 (rcl (stR S 4 S.x.fs 0 1 S.x.fc S.fail, .slice aD S.fail.length cD))) := (lb_new xD [.int .i64 3, .int .i64 4, .int .i64 S.x.id, .int .i64 S.x.fs, .int .i64 0, .int .i64 S.x.la, .int .i64 1, .int .i64 S.x.fc, .int .i64 0, .int .i64 0, .string ⟨#[]⟩, .slice aD S.fail.length cD] 37).range
     refine zqr 14 rfl (fun K hK => ?_)
     refine step_append_rec rfl (.tmp 75) (.tmp 88) 29 rfl w.heap.size hin Tryz.underlying29 v4 (ps ++ [(stR S 2 S.x.fs 1 0 0 [], .slice none 0 0)]) (stR S 4 S.x.fs 0 1 S.x.fc S.fail, .slice aD S.fail.length cD) rfl HD2.out.1.1 xD.heap.size rfl HCE.out HD2.out.2 (by simp; omega) HD2.out.1.2.2.size ?_
     intro vE wE oE bE gE
     have H5 : Hid (OutT w.heap.size wE vE ((ps ++ [(stR S 2 S.x.fs 1 0 0 [], .slice none 0 0)]) ++ [(stR S 4 S.x.fs 0 1 S.x.fc S.fail, .slice aD S.fail.length cD)]) ∧ LB wE w.heap.size 25 D ∧ Below w.heap.size w wE) := ⟨oE, lb_grown HD2.out.1.2.1 HD2.out.1.1 gE (by decide), HD2.out.1.2.2.trans bE⟩
     refine hK.out _ _ ⟨HC.out _ 0 _ H5.out.2.1 rfl, HC.out _ 5 _ H5.out.2.1 rfl, HC.out _ 13 _ H5.out.2.1 rfl, HC.out _ 14 _ H5.out.2.1 rfl, HC.out _ 15 _ H5.out.2.1 rfl⟩ (fun hH2 => ?_)
     clear hK K hH
     have hH := hH2
     clear hH2
     clear oE bE gE HD1 HD2 HCE
     simp only [zq]
     refine zqk 15 rfl hH ?_
     simp only [zq]
     refine wpAnyH_done (by kernel_rfl) ?_ _
     clear hH
     go_wp2
     go_loopw [3, 7] (fun l i wr2 => ∃ (n : Nat) (ps3 : List (Rec × Value)), i = .int .i64 (n : Int) ∧ n ≤ S.und.length ∧ OutT w.heap.size wr2 l ps3 ∧ ps3.map Prod.fst ++ undW S n (S.und.drop n) = (stB S :: outL S 0 S.outs) ++ failW S ∧ ps3.length ≤ ps.length + 2 + 2 * n ∧ LB wr2 w.heap.size 25 D ∧ Below w.heap.size w wr2) (fun _ i _ => S.und.length - (intOf i).toNat)
     case atStart => exact ⟨0, _, rfl, Nat.zero_le _, H5.out.1, by rw [HFL.out, ← HF.out]; simp, by simp, H5.out.2.1, H5.out.2.2⟩
     case round =>
      obtain ⟨m, ps3, rfl, hm2, ho, he, hpl3, lb, bl⟩ := hrel
      have HR2 : Hid (OutT w.heap.size wr u3 ps3 ∧ LB wr w.heap.size 25 D ∧ Below w.heap.size w wr) := ⟨ho, lb, bl⟩
      have HEQ : Hid (ps3.map Prod.fst ++ undW S m (S.und.drop m) = (stB S :: outL S 0 S.outs) ++ failW S) := he
      clear ho lb bl he H5
      have c12 := HC.out _ 12 (.slice h.au S.und.length h.cu) HR2.out.2.1 rfl
      by_cases hlt3 : m < S.und.length
      ·obtain ⟨b, off, d, hau, hbl, qw, q3⟩ := HUU.out m hlt3
       obtain ⟨o, hoo⟩ : ∃ o, S.und[m] = o := ⟨_, rfl⟩
       have HDR : Hid (S.und.drop m = o :: S.und.drop (m + 1)) := by show _ = _; rw [List.drop_eq_getElem_cons hlt3, hoo]
       rw [hoo] at qw q3
       obtain ⟨ad, cd, rfl, _⟩ := (qw _ HR2.out.2.2).2.shape
       have HQW : Hid _ := qw
       clear hoo qw hbl
       rw [hau] at c12
       have HC12 : Hid (∀ W, LB W w.heap.size 25 D → W.cell? ⟨w.heap.size, 12, none⟩ = some (.slice (some ⟨b, off, none⟩) S.und.length h.cu)) := fun W L => by rw [← hau]; exact HC.out W 12 _ L rfl
       have c0 := HC.out _ 0 (.int .i64 S.x.id) HR2.out.2.1 rfl
       have c5 := HC.out _ 5 (.int .i64 S.x.la) HR2.out.2.1 rfl
       have c13 := HC.out _ 13 (.int .i64 S.x.fs) HR2.out.2.1 rfl
       obtain ⟨PP, i2⟩ : ∃ PP, IntKind.i64.wrap (F0 - (m : Int)) = PP := ⟨_, rfl⟩
       have HI2 : Hid (IntKind.i64.wrap (F0 - (m : Int)) = PP) := i2
       go_wp2_with (at_builtin; refine wpList_append_recT rfl (.tmp 97) (.tmp 108) 29 rfl w.heap.size hin Tryz.underlying29 u3 ps3 (stR S 5 PP 1 0 0 [], .slice none 0 0) rfl (HR2.out.1.kept (up0 _ _)) _ rfl (lb_new wr [.int .i64 3, .int .i64 5, .int .i64 S.x.id, .int .i64 (PP), .int .i64 1, .int .i64 S.x.la, .int .i64 0, .int .i64 0, .int .i64 0, .int .i64 0, .string ⟨#[]⟩, .slice none 0 0] 37).range (Own.nil _ _) (by omega) (up HR2.out.2.2 _).size ?_)
       intro v6 w6 o6 b6 g6
       have H6 : Hid (OutT w.heap.size w6 v6 (ps3 ++ [(stR S 5 PP 1 0 0 [], .slice none 0 0)]) ∧ LB w6 w.heap.size 25 D ∧ Below w.heap.size w w6) := ⟨o6, lb_grown (HR2.out.2.1.kept (up0 _ _)) (HR2.out.1.kept (up0 _ _)) g6 (by decide), (up HR2.out.2.2 _).trans b6⟩
       clear o6 b6 g6 HR2
       clear c0 c5 c12 c13
       go_wp2
       have HD0 : Hid (OutT w.heap.size w6.drew v6 (ps3 ++ [(stR S 5 PP 1 0 0 [], .slice none 0 0)]) ∧ LB w6.drew w.heap.size 25 D ∧ Below w.heap.size w w6.drew) := ⟨H6.out.1.kept (Below.drew (Below.refl _ _)), H6.out.2.1.kept (Below.drew (Below.refl _ _)), Below.drew H6.out.2.2⟩
       clear H6
       refine wp_region_held_drew (S := fun w' : World => w'.cell? ⟨w.heap.size, 0, none⟩ = some (.int .i64 S.x.id) ∧ w'.cell? ⟨w.heap.size, 5, none⟩ = some (.int .i64 S.x.la) ∧ w'.cell? ⟨w.heap.size, 13, none⟩ = some (.int .i64 S.x.fs) ∧ w'.cell? ⟨w.heap.size, 12, none⟩ = some (.slice (some ⟨b, off, none⟩) S.und.length h.cu) ∧ w'.cell? ⟨b, off + m, none⟩ = some (.slice ad o.length cd)) (by kernel_rfl) ⟨HC.out _ 0 _ HD0.out.2.1 rfl, HC.out _ 5 _ HD0.out.2.1 rfl, HC.out _ 13 _ HD0.out.2.1 rfl, HC12.out _ HD0.out.2.1, (HQW.out _ HD0.out.2.2).1⟩ (fun hH => ?_)
       generalize w6.drew = VD at *
       refine zqk 0 rfl hH ?_
       simp only [zq]
       refine zqk 1 rfl hH ?_
       simp only [zq]
       refine zqk 2 rfl hH ?_
       simp only [zq]
       refine zqk 3 rfl hH ?_
       simp only [zq]
       refine zqk 4 rfl hH ?_
       simp only [zq]
       refine zqk 5 rfl hH ?_
       simp only [zq]
       refine zqk 6 rfl hH ?_
       simp only [zq]
       refine zqk 7 rfl hH ?_
       simp only [zq]
       refine zqk 8 rfl hH ?_
       simp only [zq]
       refine zqk 9 rfl hH ?_
       simp only [zq]
       refine zqk 10 rfl hH ?_
       simp only [zq]
       refine zqk 11 rfl hH ?_
       simp only [zq]
       refine zqk 12 rfl hH ?_
       simp only [zq]
       refine zqk 13 rfl hH ?_
       simp only [zq]
       refine zqk 14 rfl hH ?_
       simp only [zq]
       refine zqr 15 rfl (fun K hK => ?_)
       go_simp
       refine (HBY.out _ _ _ (HQW.out _ HD0.out.2.2).2 q3).mono ?_
       rintro e xD ⟨aD, cD, rfl, oD, bD⟩
       have HD1 : Hid ((OutT w.heap.size xD v6 (ps3 ++ [(stR S 5 PP 1 0 0 [], .slice none 0 0)]) ∧ LB xD w.heap.size 25 D ∧ Below w.heap.size w xD) ∧ Own w.heap.size xD (.slice aD o.length cD) o) := ⟨⟨HD0.out.1.kept bD, HD0.out.2.1.kept bD, andThen HD0.out.2.2 bD⟩, own_weak oD HD0.out.2.2.size⟩
       refine hK.out _ _ ⟨HC.out _ 0 _ HD1.out.1.2.1 rfl, HC.out _ 5 _ HD1.out.1.2.1 rfl, HC.out _ 13 _ HD1.out.1.2.1 rfl, HC12.out _ HD1.out.1.2.1, (HQW.out _ HD1.out.1.2.2).1⟩ (fun hH2 => ?_)
       clear hK K hH
       have hH := hH2
       clear hH2
       clear bD oD HD0
       refine zqk 16 rfl hH ?_
       simp only [zq]
       refine zqr 17 rfl (fun K hK => ?_)
       go_simp
       have HD2 : Hid ((OutT w.heap.size (xD.alloc (.cells #[.int .i64 3, .int .i64 6, .int .i64 S.x.id, .int .i64 (PP), .int .i64 0, .int .i64 S.x.la, .int .i64 0, .int .i64 0, .int .i64 0, .int .i64 0, .string ⟨#[]⟩, .slice aD o.length cD] 37)) v6 (ps3 ++ [(stR S 5 PP 1 0 0 [], .slice none 0 0)]) ∧ LB (xD.alloc (.cells #[.int .i64 3, .int .i64 6, .int .i64 S.x.id, .int .i64 (PP), .int .i64 0, .int .i64 S.x.la, .int .i64 0, .int .i64 0, .int .i64 0, .int .i64 0, .string ⟨#[]⟩, .slice aD o.length cD] 37)) w.heap.size 25 D ∧ Below w.heap.size w (xD.alloc (.cells #[.int .i64 3, .int .i64 6, .int .i64 S.x.id, .int .i64 (PP), .int .i64 0, .int .i64 S.x.la, .int .i64 0, .int .i64 0, .int .i64 0, .int .i64 0, .string ⟨#[]⟩, .slice aD o.length cD] 37))) ∧ Own w.heap.size (xD.alloc (.cells #[.int .i64 3, .int .i64 6, .int .i64 S.x.id, .int .i64 (PP), .int .i64 0, .int .i64 S.x.la, .int .i64 0, .int .i64 0, .int .i64 0, .int .i64 0, .string ⟨#[]⟩, .slice aD o.length cD] 37)) (.slice aD o.length cD) o) := ⟨⟨HD1.out.1.1.kept (up0 _ _), HD1.out.1.2.1.kept (up0 _ _), up HD1.out.1.2.2 _⟩, HD1.out.2.kept (up0 _ _)⟩
       refine hK.out _ _ ⟨HC.out _ 0 _ HD2.out.1.2.1 rfl, HC.out _ 5 _ HD2.out.1.2.1 rfl, HC.out _ 13 _ HD2.out.1.2.1 rfl, HC12.out _ HD2.out.1.2.1, (HQW.out _ HD2.out.1.2.2).1⟩ (fun hH2 => ?_)
       clear hK K hH
       have hH := hH2
       clear hH2
       have HCE : Hid ((xD.alloc (.cells #[.int .i64 3, .int .i64 6, .int .i64 S.x.id, .int .i64 (PP), .int .i64 0, .int .i64 S.x.la, .int .i64 0, .int .i64 0, .int .i64 0, .int .i64 0, .string ⟨#[]⟩, .slice aD o.length cD] 37)).rangeAt xD.heap.size 0 (rcl (stR S 6 PP 0 0 0 o, .slice aD o.length cD))) := (lb_new xD [.int .i64 3, .int .i64 6, .int .i64 S.x.id, .int .i64 (PP), .int .i64 0, .int .i64 S.x.la, .int .i64 0, .int .i64 0, .int .i64 0, .int .i64 0, .string ⟨#[]⟩, .slice aD o.length cD] 37).range
       refine zqr 18 rfl (fun K hK => ?_)
       refine step_append_rec rfl (.tmp 110) (.tmp 127) 29 rfl w.heap.size hin Tryz.underlying29 v6 (ps3 ++ [(stR S 5 PP 1 0 0 [], .slice none 0 0)]) (stR S 6 PP 0 0 0 o, .slice aD o.length cD) rfl HD2.out.1.1 xD.heap.size rfl HCE.out HD2.out.2 (by simp; omega) HD2.out.1.2.2.size ?_
       intro vE wE oE bE gE
       have H7 : Hid (OutT w.heap.size wE vE ((ps3 ++ [(stR S 5 PP 1 0 0 [], .slice none 0 0)]) ++ [(stR S 6 PP 0 0 0 o, .slice aD o.length cD)]) ∧ LB wE w.heap.size 25 D ∧ Below w.heap.size w wE) := ⟨oE, lb_grown HD2.out.1.2.1 HD2.out.1.1 gE (by decide), HD2.out.1.2.2.trans bE⟩
       refine hK.out _ _ ⟨HC.out _ 0 _ H7.out.2.1 rfl, HC.out _ 5 _ H7.out.2.1 rfl, HC.out _ 13 _ H7.out.2.1 rfl, HC12.out _ H7.out.2.1, (HQW.out _ H7.out.2.2).1⟩ (fun hH2 => ?_)
       clear hK K hH
       have hH := hH2
       clear hH2
       clear oE bE gE HD1 HD2 HCE
       simp only [zq]
       refine zqk 19 rfl hH ?_
       simp only [zq]
       refine wpAnyH_done (by kernel_rfl) ?_ _
       clear hH
       go_wp2
       go_roundw
       case rel => exact ⟨m + 1, _, by go_num, by omega, H7.out.1, by rw [← HEQ.out, HDR.out]; simp [undW, HI1.out, HI2.out], by simp; omega, H7.out.2.1, H7.out.2.2⟩
       case measure => simp [intOf]; omega
      ·obtain rfl : m = S.und.length := by omega
       have hfin : ps3.map Prod.fst = (stB S :: outL S 0 S.outs) ++ failW S := by
        have := HEQ.out
        rw [List.drop_length] at this
        simpa [undW] using this
       have c8 := HC.out _ 8 (.int .i64 S.x.nx) HR2.out.2.1 rfl
       go_wp2_with fail
       go_meet
       exact ⟨ps3, by rw [hk1], by rw [hk2], HR2.out.1, hfin, by omega, HR2.out.2.1, HR2.out.2.2⟩
   case rest =>
   obtain ⟨ps2, rfl, rfl, ho2, hm2, hl2, lb2, bl2⟩ := hcut
   have H8 : Hid (OutT w.heap.size wc u3 ps2 ∧ LB wc w.heap.size 25 D ∧ Below w.heap.size w wc) := ⟨ho2, lb2, bl2⟩
   have HM : Hid (ps2.map Prod.fst = (stB S :: outL S 0 S.outs) ++ failW S) := hm2
   clear ho2 hm2 lb2 bl2 HR HF HUU HBY HKP
   go_wp2
   go_loopw [3, 8] (fun l i wx => ∃ (m : Nat) (ps : List (Rec × Value)), i = .int .i64 ((m : Int) + 1) ∧ m ≤ S.x.tr.toNat ∧ OutT w.heap.size wx l ps ∧ ps.map Prod.fst ++ trL S KK TT m (S.x.tr.toNat - m) = (stB S :: outL S 0 S.outs) ++ failW S ++ trL S KK TT 0 S.x.tr.toNat ∧ ps.length ≤ 200 + 2 * m ∧ LB wx w.heap.size 25 D ∧ Below w.heap.size w wx) (fun _ i _ => S.x.tr.toNat + 1 - (intOf i).toNat)
   case atStart => exact ⟨0, ps2, rfl, Nat.zero_le _, H8.out.1, by rw [HM.out]; simp, by omega, H8.out.2.1, H8.out.2.2⟩
   case round =>
    obtain ⟨m, ps, rfl, hm, ho, he, hpl, lb, bl⟩ := hrel
    have HG : Hid (OutT w.heap.size wr u3 ps ∧ LB wr w.heap.size 25 D ∧ Below w.heap.size w wr) := ⟨ho, lb, bl⟩
    have HEQ : Hid (ps.map Prod.fst ++ trL S KK TT m (S.x.tr.toNat - m) = (stB S :: outL S 0 S.outs) ++ failW S ++ trL S KK TT 0 S.x.tr.toNat) := he
    clear ho lb bl he H8 HM
    have c10 := HC.out _ 10 (.int .i64 S.x.tr) HG.out.2.1 rfl
    by_cases hlt : m < S.x.tr.toNat
    ·obtain ⟨n, hnn⟩ : ∃ n, S.x.tr.toNat - m = n + 1 := ⟨S.x.tr.toNat - m - 1, by omega⟩
     have hn2x : S.x.tr.toNat - (m + 1) = n := by omega
     rw [hnn, trR_step] at HEQ
     have d1 : decide ((m : Int) + 1 ≤ S.x.tr) = true := by simp; omega
     have c0 := HC.out _ 0 (.int .i64 S.x.id) HG.out.2.1 rfl
     have c5 := HC.out _ 5 (.int .i64 S.x.la) HG.out.2.1 rfl
     go_wp2_with (at_builtin; refine wpList_append_recT rfl (.tmp 138) (.tmp 147) 29 rfl w.heap.size hin Tryz.underlying29 u3 ps (stR S KK TT ((m : Int) + 1) 0 0 [], .slice none 0 0) rfl (HG.out.1.kept (up0 _ _)) _ rfl (lb_new wr [.int .i64 3, .int .i64 KK, .int .i64 S.x.id, .int .i64 TT, .int .i64 ((m : Int) + 1), .int .i64 S.x.la, .int .i64 0, .int .i64 0, .int .i64 0, .int .i64 0, .string ⟨#[]⟩, .slice none 0 0] 37).range (Own.nil _ _) (by omega) (up HG.out.2.2 _).size ?_)
     intro v2 w2 o2 b2 g2
     have H4 : Hid (OutT w.heap.size w2 v2 (ps ++ [(stR S KK TT ((m : Int) + 1) 0 0 [], .slice none 0 0)]) ∧ LB w2 w.heap.size 25 D ∧ Below w.heap.size w w2) := ⟨o2, lb_grown (HG.out.2.1.kept (up0 _ _)) (HG.out.1.kept (up0 _ _)) g2 (by decide), (up HG.out.2.2 _).trans b2⟩
     clear o2 b2 g2 HG
     clear c10 d1 c0 c5
     have c10 := HC.out _ 10 (.int .i64 S.x.tr) H4.out.2.1 rfl
     by_cases hn0 : n = 0
     ·have d2 : decide ((m : Int) + 1 < S.x.tr) = false := by simp; omega
      cases hfx : S.x.fl with
      | true =>
       have c9 := HC.out _ 9 (.bool true) H4.out.2.1 (by rw [← hfx]; rfl)
       rw [if_neg (by simp [hn0, hfx])] at HEQ
       go_wp2
       go_roundw
       case rel => exact ⟨m + 1, _, by go_num, by omega, H4.out.1, by rw [hn2x, ← HEQ.out]; simp, by simp; omega, H4.out.2.1, H4.out.2.2⟩
       case measure => simp [intOf]; omega
      | false =>
       have c9 := HC.out _ 9 (.bool false) H4.out.2.1 (by rw [← hfx]; rfl)
       rw [if_pos (.inr hfx)] at HEQ
       have c0 := HC.out _ 0 (.int .i64 S.x.id) H4.out.2.1 rfl
       have c5 := HC.out _ 5 (.int .i64 S.x.la) H4.out.2.1 rfl
       go_wp2_with (at_builtin; refine wpList_append_recT rfl (.tmp 158) (.tmp 165) 29 rfl w.heap.size hin Tryz.underlying29 v2 (ps ++ [(stR S KK TT ((m : Int) + 1) 0 0 [], .slice none 0 0)]) (stR S 4 TT 0 0 0 [], .slice none 0 0) rfl (H4.out.1.kept (up0 _ _)) _ rfl (lb_new w2 [.int .i64 3, .int .i64 4, .int .i64 S.x.id, .int .i64 TT, .int .i64 0, .int .i64 S.x.la, .int .i64 0, .int .i64 0, .int .i64 0, .int .i64 0, .string ⟨#[]⟩, .slice none 0 0] 37).range (Own.nil _ _) (by simp; omega) (up H4.out.2.2 _).size ?_)
       intro v4 w4 o4 b4 g4
       have H5 : Hid (OutT w.heap.size w4 v4 ((ps ++ [(stR S KK TT ((m : Int) + 1) 0 0 [], .slice none 0 0)]) ++ [(stR S 4 TT 0 0 0 [], .slice none 0 0)]) ∧ LB w4 w.heap.size 25 D ∧ Below w.heap.size w w4) := ⟨by rw [List.append_assoc]; exact o4, lb_grown (H4.out.2.1.kept (up0 _ _)) (H4.out.1.kept (up0 _ _)) g4 (by decide), (up H4.out.2.2 _).trans b4⟩
       clear o4 b4 g4 H4 c10 c0 c5 c9
       go_wp2
       go_roundw
       case rel => exact ⟨m + 1, _, by go_num, by omega, H5.out.1, by rw [hn2x, ← HEQ.out]; simp, by simp; omega, H5.out.2.1, H5.out.2.2⟩
       case measure => simp [intOf]; omega
     ·have d2 : decide ((m : Int) + 1 < S.x.tr) = true := by simp; omega
      rw [if_pos (.inl hn0)] at HEQ
      have c0 := HC.out _ 0 (.int .i64 S.x.id) H4.out.2.1 rfl
      have c5 := HC.out _ 5 (.int .i64 S.x.la) H4.out.2.1 rfl
      go_wp2_with (at_builtin; refine wpList_append_recT rfl (.tmp 158) (.tmp 165) 29 rfl w.heap.size hin Tryz.underlying29 v2 (ps ++ [(stR S KK TT ((m : Int) + 1) 0 0 [], .slice none 0 0)]) (stR S 4 TT 0 0 0 [], .slice none 0 0) rfl (H4.out.1.kept (up0 _ _)) _ rfl (lb_new w2 [.int .i64 3, .int .i64 4, .int .i64 S.x.id, .int .i64 TT, .int .i64 0, .int .i64 S.x.la, .int .i64 0, .int .i64 0, .int .i64 0, .int .i64 0, .string ⟨#[]⟩, .slice none 0 0] 37).range (Own.nil _ _) (by simp; omega) (up H4.out.2.2 _).size ?_)
      intro v4 w4 o4 b4 g4
      have H5 : Hid (OutT w.heap.size w4 v4 ((ps ++ [(stR S KK TT ((m : Int) + 1) 0 0 [], .slice none 0 0)]) ++ [(stR S 4 TT 0 0 0 [], .slice none 0 0)]) ∧ LB w4 w.heap.size 25 D ∧ Below w.heap.size w w4) := ⟨by rw [List.append_assoc]; exact o4, lb_grown (H4.out.2.1.kept (up0 _ _)) (H4.out.1.kept (up0 _ _)) g4 (by decide), (up H4.out.2.2 _).trans b4⟩
      clear o4 b4 g4 H4 c10 c0 c5
      go_wp2
      go_roundw
      case rel => exact ⟨m + 1, _, by go_num, by omega, H5.out.1, by rw [hn2x, ← HEQ.out]; simp, by simp; omega, H5.out.2.1, H5.out.2.2⟩
      case measure => simp [intOf]; omega
    ·obtain rfl : m = S.x.tr.toNat := by omega
     have d1 : decide (((S.x.tr.toNat : Nat) : Int) + 1 ≤ S.x.tr) = false := by simp; omega
     have c7 := HC.out _ 7 (.int .i64 S.x.ph) HG.out.2.1 rfl
     have hfin : ps.map Prod.fst = (stB S :: outL S 0 S.outs) ++ failW S ++ trL S KK TT 0 S.x.tr.toNat := by
      have := HEQ.out
      rw [Nat.sub_self] at this
      simpa [trL] using this
     have hp4 : (S.x.ph = 1 ∨ S.x.ph = 2) ∨ S.x.ph = 3 ∨ S.x.ph = 4 := by omega
     rcases hp4 with hp | hp | hp
     ·have y3 : (S.x.ph == 3) = false := by rw [beq_eq_false_iff_ne]; omega
      have y4 : (S.x.ph == 4) = false := by rw [beq_eq_false_iff_ne]; omega
      have he9 : endL S = [] := by unfold endL SN.ended; rw [y3, y4]; rfl
      have HZ9 : Hid (ps.map Prod.fst = storyW S) := by show _ = _; rw [HST.out, he9, hfin]; simp
      clear hfin
      go_wp2
      go_ret
      exact ⟨_, ps, rfl, HG.out.1, HZ9.out, HG.out.2.2⟩
     ·rw [hp] at c7
      have he9 : endL S = [stR S 7 0 0 0 1 []] := by simp [endL, SN.ended, SN.outcome, SN.fwd, hp]
      have HZ9 : Hid (ps.map Prod.fst ++ [stR S 7 0 0 0 1 []] = storyW S) := by show _ = _; rw [HST.out, he9, hfin]
      clear hfin
      have c0 := HC.out _ 0 (.int .i64 S.x.id) HG.out.2.1 rfl
      have c5 := HC.out _ 5 (.int .i64 S.x.la) HG.out.2.1 rfl
      go_wp2_with (at_builtin; refine wpList_append_recT rfl (.tmp 175) (.tmp 184) 29 rfl w.heap.size hin Tryz.underlying29 u3 ps (stR S 7 0 0 0 1 [], .slice none 0 0) rfl (HG.out.1.kept (up0 _ _)) _ rfl (lb_new wr [.int .i64 3, .int .i64 7, .int .i64 S.x.id, .int .i64 0, .int .i64 0, .int .i64 S.x.la, .int .i64 0, .int .i64 1, .int .i64 0, .int .i64 0, .string ⟨#[]⟩, .slice none 0 0] 37).range (Own.nil _ _) (by omega) (up HG.out.2.2 _).size ?_)
      intro v9 w9 o9 b9 g9
      have H9 : Hid (OutT w.heap.size w9 v9 (ps ++ [(stR S 7 0 0 0 1 [], .slice none 0 0)]) ∧ LB w9 w.heap.size 25 D ∧ Below w.heap.size w w9) := ⟨o9, lb_grown (HG.out.2.1.kept (up0 _ _)) (HG.out.1.kept (up0 _ _)) g9 (by decide), (up HG.out.2.2 _).trans b9⟩
      clear o9 b9 g9 HG
      go_wp2
      go_ret
      exact ⟨_, _, rfl, H9.out.1, by rw [← HZ9.out]; simp, H9.out.2.2⟩
     ·rw [hp] at c7
      have he9 : endL S = [stR S 7 0 0 0 2 []] := by simp [endL, SN.ended, SN.outcome, SN.fwd, hp]
      have HZ9 : Hid (ps.map Prod.fst ++ [stR S 7 0 0 0 2 []] = storyW S) := by show _ = _; rw [HST.out, he9, hfin]
      clear hfin
      have c0 := HC.out _ 0 (.int .i64 S.x.id) HG.out.2.1 rfl
      have c5 := HC.out _ 5 (.int .i64 S.x.la) HG.out.2.1 rfl
      go_wp2_with (at_builtin; refine wpList_append_recT rfl (.tmp 175) (.tmp 184) 29 rfl w.heap.size hin Tryz.underlying29 u3 ps (stR S 7 0 0 0 2 [], .slice none 0 0) rfl (HG.out.1.kept (up0 _ _)) _ rfl (lb_new wr [.int .i64 3, .int .i64 7, .int .i64 S.x.id, .int .i64 0, .int .i64 0, .int .i64 S.x.la, .int .i64 0, .int .i64 2, .int .i64 0, .int .i64 0, .string ⟨#[]⟩, .slice none 0 0] 37).range (Own.nil _ _) (by omega) (up HG.out.2.2 _).size ?_)
      intro v9 w9 o9 b9 g9
      have H9 : Hid (OutT w.heap.size w9 v9 (ps ++ [(stR S 7 0 0 0 2 [], .slice none 0 0)]) ∧ LB w9 w.heap.size 25 D ∧ Below w.heap.size w w9) := ⟨o9, lb_grown (HG.out.2.1.kept (up0 _ _)) (HG.out.1.kept (up0 _ _)) g9 (by decide), (up HG.out.2.2 _).trans b9⟩
      clear o9 b9 g9 HG
      go_wp2
      go_ret
      exact ⟨_, _, rfl, H9.out.1, by rw [← HZ9.out]; simp, H9.out.2.2⟩
theorem good_lists (S : Sg) (h : chkS S = true) : S.inp.length ≤ 16384 ∧ S.fail.length ≤ 16384 ∧ shortP S.outs = true ∧ shortP S.und = true ∧ (S.x.fwd = false → 0 ≤ S.x.fs ∧ S.x.fs ≤ 32) := by
 obtain ⟨⟨b1, b2, b3, b4, b5, b6, b7, b8, b9, b10, b11⟩, h1⟩ := (chkS_iff S).1 h
 refine ⟨b8, b9, b10, b11, ?_⟩
 rcases h1 with ⟨g, c1, c2, c3, c4, c5, c6, c7, _⟩ | ⟨g, c1, c2, c3, c4, c5, c6, _⟩ | ⟨g, c1, c2, c3, c4, c5, c6, _⟩ | ⟨g, g0, c1, c2, c3, c4, c5, c6, _⟩
 all_goals first | (intro _; omega) | (intro hf; simp [SN.fwd, g] at hf)
theorem undW_L (S : Sg) (hf : 0 ≤ S.x.fs ∧ S.x.fs ≤ 32) : ∀ (l : List (List Nat)) (n : Nat), n + l.length ≤ 100 → undW S n l = undL S (S.x.fs - 1 - (n : Int)) l
 | [], _, _ => rfl
 | o :: r, n, h => by
  have h' : n + r.length + 1 ≤ 100 := by simpa [Nat.add_assoc] using h
  have e1 : IntKind.i64.wrap (S.x.fs - 1) = S.x.fs - 1 := IntWalk.i64_in _ (by omega)
  have e2 : IntKind.i64.wrap (S.x.fs - 1 - (n : Int)) = S.x.fs - 1 - (n : Int) := IntWalk.i64_in _ (by omega)
  have e3 : S.x.fs - 1 - ((n + 1 : Nat) : Int) = S.x.fs - 1 - (n : Int) - 1 := by omega
  simp only [undW, undL, e1, e2]
  rw [undW_L S hf r (n + 1) (by omega), e3]
theorem storyW_P (S : Sg) (hc : chkS S = true) : storyW S = storyP S := by
 obtain ⟨_, _, _, htr, hph, hol, hul, _, hnx, _, _⟩ := good_nums S hc
 obtain ⟨_, _, _, _, hfs⟩ := good_lists S hc
 have e1 : failW S = failL S := by
  unfold failW failL
  cases hw : S.x.fwd with
  | true => rfl
  | false =>
   have e := undW_L S (hfs hw) S.und 0 (by omega)
   rw [show S.x.fs - 1 - ((0 : Nat) : Int) = S.x.fs - 1 by simp] at e
   simp [e]
 have e2 : trW S = S.x.turn := by
  unfold trW SN.turn
  cases hw : S.x.fwd with
  | true => rfl
  | false => exact IntWalk.i64_in _ (by omega)
 unfold storyW storyP storyT
 rw [e1, e2]
 simp
theorem outL_fine {S : Sg} (hF : Fits S) : ∀ (l : List (List Nat)) (n : Nat), n + l.length ≤ 100 → (∀ o ∈ l, o.length ≤ 1048576) → ∀ r ∈ outL S n l, FineR r
 | [], _, _, _, r, hr => absurd hr (List.not_mem_nil)
 | o :: t, n, h, ho, r, hr => by
  have h' : n + t.length + 1 ≤ 100 := by simpa [Nat.add_assoc] using h
  simp only [outL, List.mem_cons] at hr
  rcases hr with rfl | rfl | hr
  ·exact fine_st hF _ _ _ _ _ _ (by omega) (by omega) (by omega) (by omega) (by omega) (by simp)
  ·exact fine_st hF _ _ _ _ _ _ (by omega) (by omega) (by omega) (by omega) (by omega) (ho _ (by simp))
  ·exact outL_fine hF t (n + 1) (by omega) (fun a b => ho a (by simp [b])) r hr
theorem undW_fine {S : Sg} (hF : Fits S) : ∀ (l : List (List Nat)) (n : Nat), (∀ o ∈ l, o.length ≤ 1048576) → ∀ r ∈ undW S n l, FineR r
 | [], _, _, r, hr => absurd hr (List.not_mem_nil)
 | o :: t, n, ho, r, hr => by
  have hw := wrap_in (IntKind.i64.wrap (S.x.fs - 1) - (n : Int))
  simp only [undW, List.mem_cons] at hr
  rcases hr with rfl | rfl | hr
  ·exact fine_st hF _ _ _ _ _ _ (by omega) hw (by omega) (by omega) (by omega) (by simp)
  ·exact fine_st hF _ _ _ _ _ _ (by omega) hw (by omega) (by omega) (by omega) (ho _ (by simp))
  ·exact undW_fine hF t (n + 1) (fun a b => ho a (by simp [b])) r hr
theorem trL_fine {S : Sg} (hF : Fits S) (kk p : Int) (hk : 0 ≤ kk ∧ kk ≤ 9) (hp : -9223372036854775808 ≤ p ∧ p ≤ 9223372036854775807) : ∀ (n m : Nat), m + n ≤ 1000 → ∀ r ∈ trL S kk p m n, FineR r
 | 0, _, _, r, hr => absurd hr (List.not_mem_nil)
 | n + 1, m, h, r, hr => by
  simp only [trL, List.mem_cons, List.mem_append] at hr
  rcases hr with rfl | hr | hr
  ·exact fine_st hF _ _ _ _ _ _ (by omega) hp (by omega) (by omega) (by omega) (by simp)
  ·split at hr
   ·obtain rfl := List.mem_singleton.1 hr
    exact fine_st hF _ _ _ _ _ _ (by omega) hp (by omega) (by omega) (by omega) (by simp)
   ·exact absurd hr (List.not_mem_nil)
  ·exact trL_fine hF kk p hk hp n (m + 1) (by omega) r hr
theorem outL_lenW (S : Sg) : ∀ (l : List (List Nat)) (n : Nat), (outL S n l).length = 2 * l.length
 | [], _ => rfl
 | _ :: t, n => by simp only [outL, List.length_cons, outL_lenW S t (n + 1)]; omega
theorem undW_len (S : Sg) : ∀ (l : List (List Nat)) (n : Nat), (undW S n l).length = 2 * l.length
 | [], _ => rfl
 | _ :: t, n => by simp only [undW, List.length_cons, undW_len S t (n + 1)]; omega
theorem trL_lenW (S : Sg) (kk p : Int) : ∀ (n m : Nat), (trL S kk p m n).length ≤ 2 * n
 | 0, _ => Nat.le_refl _
 | n + 1, m => by
  have := trL_lenW S kk p n (m + 1)
  simp only [trL, List.length_cons, List.length_append]
  split <;> simp <;> omega
theorem storyW_fine {S : Sg} (hF : Fits S) (htr : 0 ≤ S.x.tr ∧ S.x.tr ≤ 1000) (hol : S.outs.length ≤ 32) (hul : S.und.length ≤ 32) : (∀ r ∈ storyW S, FineR r) ∧ 1 ≤ (storyW S).length ∧ (storyW S).length ≤ 3000 := by
 have h0 := outL_lenW S S.outs 0
 have h1 := undW_len S S.und 0
 have h2 := trL_lenW S (trK S) (trW S) S.x.tr.toNat 0
 have hk : 0 ≤ trK S ∧ trK S ≤ 9 := by unfold trK; split <;> omega
 have hp : -9223372036854775808 ≤ trW S ∧ trW S ≤ 9223372036854775807 := by unfold trW; split; (· exact hF.nx); (· exact wrap_in _)
 have hfs := hF.fs
 have hfc := hF.fc
 have h3 : (∀ r ∈ failW S, FineR r) ∧ (failW S).length ≤ 2 + 2 * S.und.length := by
  unfold failW
  split
  ·exact ⟨fun r hr => absurd hr (List.not_mem_nil), by simp⟩
  ·refine ⟨fun r hr => ?_, by simp [h1]; omega⟩
   simp only [List.mem_cons] at hr
   rcases hr with rfl | rfl | hr
   ·exact fine_st hF _ _ _ _ _ _ (by omega) hfs (by omega) (by omega) (by omega) (by simp)
   ·exact fine_st hF _ _ _ _ _ _ (by omega) hfs (by omega) (by omega) hfc hF.fail
   ·exact undW_fine hF S.und 0 hF.und r hr
 have h4 : (∀ r ∈ endL S, FineR r) ∧ (endL S).length ≤ 1 := by
  have ho : 0 ≤ S.x.outcome ∧ S.x.outcome ≤ 9 := by unfold SN.outcome; split <;> omega
  unfold endL
  split
  ·refine ⟨fun r hr => ?_, by simp⟩
   obtain rfl := List.mem_singleton.1 hr
   exact fine_st hF _ _ _ _ _ _ (by omega) (by omega) (by omega) (by omega) (by omega) (by simp)
  ·exact ⟨fun r hr => absurd hr (List.not_mem_nil), by simp⟩
 unfold storyW
 refine ⟨fun r hr => ?_, by simp only [List.length_append, List.length_cons]; omega, by simp only [List.length_append, List.length_cons]; omega⟩
 simp only [List.mem_append, List.mem_cons] at hr
 rcases hr with (((rfl | hr) | hr) | hr) | hr
 ·exact fine_stB hF
 ·exact outL_fine hF S.outs 0 (by omega) hF.outs r hr
 ·exact h3.1 r hr
 ·exact trL_fine hF _ _ hk hp _ 0 (by omega) r hr
 ·exact h4.1 r hr
theorem rxtold_gen (S : Sg) (h : SH) (w : World) (k : SgAt w S h) (hF : Fits S) (htr : 0 ≤ S.x.tr ∧ S.x.tr ≤ 1000) (hph : 1 ≤ S.x.ph ∧ S.x.ph ≤ 4) (hol : S.outs.length ≤ 32) (hul : S.und.length ≤ 32) :
  Calls Tryz.prog 83 #[sv S h] w fun e w' => ∃ v ps, e = .returned v ∧ OutT w.heap.size w' v ps ∧ 1 ≤ ps.length ∧ ps.length ≤ 3000 ∧ AllF ps ∧ Below w.heap.size w w' := by
 refine (rxtold_W S h w k hF.inp hF.fail hF.outs hF.und htr hph hol hul).mono ?_
 rintro e w' ⟨v, ps, rfl, ho, he, hb⟩
 obtain ⟨h1, h2, h3⟩ := storyW_fine hF htr hol hul
 rw [← he] at h1 h2 h3
 exact ⟨v, ps, rfl, ho, by simpa using h2, by simpa using h3, fun p hp => h1 _ (List.mem_map_of_mem hp), hb⟩
theorem rxtold_any (S : Sg) (h : SH) (w : World) (k : SgAt w S h) (hc : chkS S = true) :
  Calls Tryz.prog 83 #[sv S h] w fun e w' => ∃ v ps, e = .returned v ∧ OutT w.heap.size w' v ps ∧ ps.map Prod.fst = storyP S ∧ Below w.heap.size w w' := by
 obtain ⟨_, _, _, htr, hph, hol, hul, _, _, _, _⟩ := good_nums S hc
 obtain ⟨h1, h2, h3, h4, _⟩ := good_lists S hc
 refine (rxtold_W S h w k (by omega) (by omega) (fun l hl => ?_) (fun l hl => ?_) htr hph hol hul).mono ?_
 ·have e := List.all_eq_true.1 h3 l hl
  simp at e
  omega
 ·have e := List.all_eq_true.1 h4 l hl
  simp at e
  omega
 rintro e w' ⟨v, ps, rfl, ho, he, hb⟩
 exact ⟨v, ps, rfl, ho, he.trans (storyW_P S hc), hb⟩
end Go.Proofs.YtabdfafffjgfiaaGreatDoor
