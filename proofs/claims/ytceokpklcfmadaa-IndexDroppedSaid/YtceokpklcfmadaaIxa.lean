/-
  Package index: Encode: what it holds between two rounds; a region in a round.
-/
import Derived.Test.YtceokpklcfmadaaIx9
import Derived.OrdersIn
import Derived.Sort.CutIn
namespace Go.Proofs.Ytceokpklcfmadaa
open Go Go.RowKit Go.ChangeShapes
open Wb

/-! a region in a round goes as anywhere -/
section
variable {P : Program} {ops : Array Oper} {Q : Exit → Act → World → Prop} {md : Region.Mode} {l n : Nat}
theorem opIn_of {o : Oper} {a : Act} {w : World} {K : Act → World → Prop} (hnd : ∀ c, o.op ≠ .defer c) (h : Oper.wp P o a w K Q) : Oper.wpIn (Fence.wide.inRound l) n P o a w K Q := by
  unfold Oper.wp at h
  refine ⟨fun _ _ => trivial, ?_⟩
  rw [show (Fence.wide.inRound l).round = some l from rfl, Oper.semAt_some l _ o hnd]
  generalize (execOp a.eval o).run P w = r at h ⊢
  cases r with
  | ok x w' =>
    cases x with
    | value v => exact h
    | skip => exact h
    | defer d => exact h
    | enter f args => exact ⟨(fun h => by cases h), callsIn_wide.2 h⟩
    | row row args => exact ⟨(fun h => by cases h), fun c cs _ => let ⟨v, w', r, s⟩ := h c cs; ⟨v, w', r, stepsIn_wide.2 s⟩⟩
    | _ => exact False.elim h
  | halt x w' =>
    cases x with
    | panic v => exact h
    | _ => exact False.elim h
def noDefer (ops : Array Oper) : Bool := ops.all fun o => match o.op with | .defer _ => false | _ => true
theorem anyIn_of (hlo : ¬ LetsOut Q) (hnd : ∀ (i : Nat) (o : Oper), ops[i]? = some o → ∀ c, o.op ≠ .defer c) : ∀ (fuel : Nat) (listed : Array Bool) (a : Act) (w : World), wpAny P md ops Q fuel listed a w → wpAnyIn (Fence.wide.inRound l) n P md ops Q fuel listed a w
  | 0, _, _, _, h => h
  | fuel + 1, listed, a, w, h => ⟨h.1, fun i hi => by
    have h1 := h.2 i hi
    unfold wpOp at h1
    unfold wpOpIn
    cases ho : ops[i]? with
    | none =>
      rw [ho] at h1
      exact anyIn_of hlo hnd fuel _ a w h1
    | some o =>
      rw [ho] at h1
      simp only at h1 ⊢
      split
      · rename_i hw
        rw [if_pos hw] at h1
        have h1 := h1.resolve_right fun h => hlo h.2
        exact opIn_of (hnd i o ho) (Oper.wp_mono (fun a' w' h' => anyIn_of hlo hnd fuel _ a' w' h') h1)
      · rename_i hw
        rw [if_neg hw] at h1
        exact ⟨fun _ _ => trivial, anyIn_of hlo hnd fuel _ _ _ h1⟩⟩
theorem regionIn_of {id : Nat} {a : Act} {w : World} {S : World → Prop} (hlo : ¬ LetsOut Q) (hm : P.follows .mixedOrders = true) (hnd : noDefer ops = true) (hS : S w.drew) (h : S w.drew → wpAnyH P .any ops Q S ops.size (Array.replicate ops.size false) a w.drew) : (Code.region id ops true).wpIn (Fence.wide.inRound l) n P Q a w :=
  wpIn_region_any hm (anyIn_of hlo (fun i o ho c e => by
    unfold noDefer at hnd
    rw [Array.all_eq_true_iff_forall_mem] at hnd
    have := hnd o (Array.mem_of_getElem? ho)
    rw [e] at this
    cases this) _ _ _ _ (wpAny_of_held _ _ _ _ (h hS)))
end
namespace Ix
/-- a number as Uint is handed it -/
def u64 (x : Int) : Nat := (IntKind.u64.wrap (IntKind.i64.wrap x)).toNat
/-- one pair more -/
def encS (kvs : Gm) (s : List Nat × Int × Int) (x : Int × Int) : Except Nat (List Nat × Int × Int) :=
  if x.1 < 1 then .error 50
  else if x.1 ≠ s.2.1 then
    (if x.2 < 0 then .error 52 else .ok (s.1 ++ Wn.uint (u64 (x.1 - s.2.1)) ++ Wn.uint (get kvs x.1).length ++ Wn.uint (u64 (x.2 - 0)), x.1, x.2))
  else if x.2 ≤ s.2.2 then .error 52 else .ok (s.1 ++ Wn.uint (u64 (x.2 - s.2.2)), s.2.1, x.2)
def encF (kvs : Gm) (pre : List (Int × Int)) : Except Nat (List Nat × Int × Int) := pre.foldlM (encS kvs) (Wn.uint kvs.length, 0, 0)
theorem encF_snoc (kvs : Gm) (pre : List (Int × Int)) (x : Int × Int) : encF kvs (pre ++ [x]) = (encF kvs pre).bind fun s => encS kvs s x := by
  unfold encF
  rw [List.foldlM_append]
  cases pre.foldlM (encS kvs) (Wn.uint kvs.length, 0, 0) with
  | error e => rfl
  | ok s =>
    show (do let s' ← encS kvs s x; List.foldlM (encS kvs) s' []) = encS kvs s x
    cases encS kvs s x <;> rfl
theorem u64_lt (x : Int) : u64 x < 18446744073709551616 := by
  unfold u64
  generalize IntKind.i64.wrap x = y
  simp only [IntKind.wrap, IntKind.bits, IntKind.signed]
  simp
  omega
end Ix
end Go.Proofs.Ytceokpklcfmadaa
