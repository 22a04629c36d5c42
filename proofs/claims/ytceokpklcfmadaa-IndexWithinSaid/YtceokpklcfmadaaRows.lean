/-
  No cell of these rows narrows 'for every input' (looked for: loops, veiled, ifaces, maps, wideKeys, modest, calm, conditions, laid).
  DERIVED. THE GIVEN ROWS OF THIS SEAT. 6 by the template 'for every input the law returns true; each argument reads behind the call as it read before'; 0 by the template 'total and deterministic' (their statements: YtceokpklcfmadaaTotals.lean).
  GIVEN WITH THE SEED: the statements are not yours to turn. If you find one false, say at which input.
  Laid BY PROGRAM, IN A SANDBOX (cutbox-rows.mjs): the forced cells as the released guide's own fill.sh prints them over the translation d57fff2da20cd9f9… (all of the seat's roots in one cut). By AI agents, Wed Nov 11 2026. No macro, syntax, notation, axiom, sorry.
-/
import Derived.Test.YtceokpklcfmadaaChecked
import GoSem.Claim
import GoSem.ClaimJoined
import GoSem.ClaimMapViews
import Derived.JoinedTies
import Derived.KernelRfl
namespace Go.Proofs.Ytceokpklcfmadaa
/- THE CELL 'sum', in the pinned program and in every row, IS THE sha256 OF THE DUMP (.gsa) THAT YtceokpklcfmadaaProg.lean LOADS. Nothing in Lean hashes anything: it is a label: what it is worth is what the hold of that sum in a sandbox is worth. -/
noncomputable def Try.pinned : Pinned := { name := "ytceokpklcfmadaa", sum := "d57fff2da20cd9f97a14d6f3cf73600bb640601a357f40cb12c5c61f732e7a41", checked := Try.checked }
namespace Rows
def none {H : Type} : Left H := { results := [], args := [] }

/-- 'annalslaw5.IndexTexts': WHATEVER THE INPUT: true; the input reads as it did. -/
def indexTextsSpec : ChangeSpec := { name := "indexTexts", fn := fun _ => fun
  | [d] => { results := [.lit (.bool true)], args := [d] }
  | _ => none }
def indexTextsRow : OpenClaim := { program := "ytceokpklcfmadaa", sum := "d57fff2da20cd9f97a14d6f3cf73600bb640601a357f40cb12c5c61f732e7a41", func := "annals/annalslaw5.IndexTexts", spec := "indexTexts", unfollowed := true, recurses := true, apart := false }
def IndexTextsSaid : Prop := indexTextsRow.holds Try.pinned (OpenSpec.ofChange indexTextsSpec)

/-- ITS FALSE NEIGHBOUR: 'it returns false'. Refute it at one input. -/
def indexTextsWrong : ChangeSpec := { name := "indexTexts", fn := fun _ => fun
  | [d] => { results := [.lit (.bool false)], args := [d] }
  | _ => none }
def IndexTextsWrongFalsely : Prop := indexTextsRow.holds Try.pinned (OpenSpec.ofChange indexTextsWrong)

/-- 'annalslaw5.IndexMany': WHATEVER THE INPUT: true; the input reads as it did. -/
def indexManySpec : ChangeSpec := { name := "indexMany", fn := fun _ => fun
  | [d1, d2] => { results := [.lit (.bool true)], args := [d1, d2] }
  | _ => none }
def indexManyRow : OpenClaim := { program := "ytceokpklcfmadaa", sum := "d57fff2da20cd9f97a14d6f3cf73600bb640601a357f40cb12c5c61f732e7a41", func := "annals/annalslaw5.IndexMany", spec := "indexMany", unfollowed := true, recurses := true, apart := false }
def IndexManySaid : Prop := indexManyRow.holds Try.pinned (OpenSpec.ofChange indexManySpec)

/-- ITS FALSE NEIGHBOUR: 'it returns false'. Refute it at one input. -/
def indexManyWrong : ChangeSpec := { name := "indexMany", fn := fun _ => fun
  | [d1, d2] => { results := [.lit (.bool false)], args := [d1, d2] }
  | _ => none }
def IndexManyWrongFalsely : Prop := indexManyRow.holds Try.pinned (OpenSpec.ofChange indexManyWrong)

/-- 'annalslaw5.IndexPlays': WHATEVER THE INPUT: true; the input reads as it did. -/
def indexPlaysSpec : ChangeSpec := { name := "indexPlays", fn := fun _ => fun
  | [d] => { results := [.lit (.bool true)], args := [d] }
  | _ => none }
def indexPlaysRow : OpenClaim := { program := "ytceokpklcfmadaa", sum := "d57fff2da20cd9f97a14d6f3cf73600bb640601a357f40cb12c5c61f732e7a41", func := "annals/annalslaw5.IndexPlays", spec := "indexPlays", unfollowed := true, recurses := true, apart := false }
def IndexPlaysSaid : Prop := indexPlaysRow.holds Try.pinned (OpenSpec.ofChange indexPlaysSpec)

/-- ITS FALSE NEIGHBOUR: 'it returns false'. Refute it at one input. -/
def indexPlaysWrong : ChangeSpec := { name := "indexPlays", fn := fun _ => fun
  | [d] => { results := [.lit (.bool false)], args := [d] }
  | _ => none }
def IndexPlaysWrongFalsely : Prop := indexPlaysRow.holds Try.pinned (OpenSpec.ofChange indexPlaysWrong)

/-- 'annalslaw5.IndexWithin': WHATEVER THE INPUT: true; the input reads as it did. -/
def indexWithinSpec : ChangeSpec := { name := "indexWithin", fn := fun _ => fun
  | [d1, d2, d3, d4, d5, d6] => { results := [.lit (.bool true)], args := [d1, d2, d3, d4, d5, d6] }
  | _ => none }
def indexWithinRow : OpenClaim := { program := "ytceokpklcfmadaa", sum := "d57fff2da20cd9f97a14d6f3cf73600bb640601a357f40cb12c5c61f732e7a41", func := "annals/annalslaw5.IndexWithin", spec := "indexWithin", unfollowed := true, recurses := true, apart := false }
def IndexWithinSaid : Prop := indexWithinRow.holds Try.pinned (OpenSpec.ofChange indexWithinSpec)

/-- ITS FALSE NEIGHBOUR: 'it returns false'. Refute it at one input. -/
def indexWithinWrong : ChangeSpec := { name := "indexWithin", fn := fun _ => fun
  | [d1, d2, d3, d4, d5, d6] => { results := [.lit (.bool false)], args := [d1, d2, d3, d4, d5, d6] }
  | _ => none }
def IndexWithinWrongFalsely : Prop := indexWithinRow.holds Try.pinned (OpenSpec.ofChange indexWithinWrong)

/-- 'annalslaw5.IndexWrites': WHATEVER THE INPUT: true; the input reads as it did. -/
def indexWritesSpec : ChangeSpec := { name := "indexWrites", fn := fun _ => fun
  | [d] => { results := [.lit (.bool true)], args := [d] }
  | _ => none }
def indexWritesRow : OpenClaim := { program := "ytceokpklcfmadaa", sum := "d57fff2da20cd9f97a14d6f3cf73600bb640601a357f40cb12c5c61f732e7a41", func := "annals/annalslaw5.IndexWrites", spec := "indexWrites", unfollowed := true, recurses := true, apart := false }
def IndexWritesSaid : Prop := indexWritesRow.holds Try.pinned (OpenSpec.ofChange indexWritesSpec)

/-- ITS FALSE NEIGHBOUR: 'it returns false'. Refute it at one input. -/
def indexWritesWrong : ChangeSpec := { name := "indexWrites", fn := fun _ => fun
  | [d] => { results := [.lit (.bool false)], args := [d] }
  | _ => none }
def IndexWritesWrongFalsely : Prop := indexWritesRow.holds Try.pinned (OpenSpec.ofChange indexWritesWrong)

/-- 'annalslaw5.IndexDropped': WHATEVER THE INPUT: true; the input reads as it did. -/
def indexDroppedSpec : ChangeSpec := { name := "indexDropped", fn := fun _ => fun
  | [d] => { results := [.lit (.bool true)], args := [d] }
  | _ => none }
def indexDroppedRow : OpenClaim := { program := "ytceokpklcfmadaa", sum := "d57fff2da20cd9f97a14d6f3cf73600bb640601a357f40cb12c5c61f732e7a41", func := "annals/annalslaw5.IndexDropped", spec := "indexDropped", unfollowed := true, recurses := true, apart := false }
def IndexDroppedSaid : Prop := indexDroppedRow.holds Try.pinned (OpenSpec.ofChange indexDroppedSpec)

/-- ITS FALSE NEIGHBOUR: 'it returns false'. Refute it at one input. -/
def indexDroppedWrong : ChangeSpec := { name := "indexDropped", fn := fun _ => fun
  | [d] => { results := [.lit (.bool false)], args := [d] }
  | _ => none }
def IndexDroppedWrongFalsely : Prop := indexDroppedRow.holds Try.pinned (OpenSpec.ofChange indexDroppedWrong)

/- THE SECOND FORM. 'bulk': how many values and letters a reading holds, each counted each time it is reached (what is shared counts as often as it is met; a slice's spare places count too). A statement '..UptoSaid' is the law's where the arguments, and the package variables that the reading takes, are together of bulk at most 1048576: NARROWER than '..Said'. Prove '..Said' where nothing that the law and all that it calls make is longer than what came in: it says more and counts as full. Else prove '..UptoSaid'. A law counts once. -/
mutual
def uptoBulk {H : Type} : DataW H → Nat
  | .lit (.string bytes) => bytes.length + 1
  | .lit _ => 1
  | .nil => 1
  | .ptr d => uptoBulk d + 1
  | .slice elems spare => uptoBulkAll elems + uptoBulkAll spare + 1
  | .agg parts => uptoBulkAll parts + 1
  | .iface _ d => uptoBulk d + 1
  | .map entries => uptoBulkEntries entries + 1
  | .held _ => 1
def uptoBulkAll {H : Type} : List (DataW H) → Nat
  | [] => 0
  | d :: r => uptoBulk d + uptoBulkAll r
def uptoBulkEntries {H : Type} : List (Lit × DataW H) → Nat
  | [] => 0
  | x :: r => uptoBulkEntry x + uptoBulkEntries r
def uptoBulkEntry {H : Type} : Lit × DataW H → Nat
  | (.string bytes, d) => bytes.length + uptoBulk d + 1
  | (_, d) => uptoBulk d + 1
 end
def uptoSmall : (H : Type) → List (DataW H) → Bool := fun _ ds => decide (uptoBulkAll ds ≤ 1048576)
def OpenSpec.upto (s : _root_.Go.ChangeSpec) : _root_.Go.OpenSpec := { _root_.Go.OpenSpec.ofChange s with cond := some uptoSmall }

/-- 'annalslaw5.IndexTexts', WHERE WHAT IT READS IS OF BULK AT MOST 1048576: true; the input reads as it did. -/
def indexTextsUptoRow : OpenClaim := { program := "ytceokpklcfmadaa", sum := "d57fff2da20cd9f97a14d6f3cf73600bb640601a357f40cb12c5c61f732e7a41", func := "annals/annalslaw5.IndexTexts", spec := "indexTexts", unfollowed := true, recurses := true, apart := false, narrowed := true }
def IndexTextsUptoSaid : Prop := indexTextsUptoRow.holds Try.pinned (OpenSpec.upto indexTextsSpec)

/-- 'annalslaw5.IndexMany', WHERE WHAT IT READS IS OF BULK AT MOST 1048576: true; the input reads as it did. -/
def indexManyUptoRow : OpenClaim := { program := "ytceokpklcfmadaa", sum := "d57fff2da20cd9f97a14d6f3cf73600bb640601a357f40cb12c5c61f732e7a41", func := "annals/annalslaw5.IndexMany", spec := "indexMany", unfollowed := true, recurses := true, apart := false, narrowed := true }
def IndexManyUptoSaid : Prop := indexManyUptoRow.holds Try.pinned (OpenSpec.upto indexManySpec)

/-- 'annalslaw5.IndexPlays', WHERE WHAT IT READS IS OF BULK AT MOST 1048576: true; the input reads as it did. -/
def indexPlaysUptoRow : OpenClaim := { program := "ytceokpklcfmadaa", sum := "d57fff2da20cd9f97a14d6f3cf73600bb640601a357f40cb12c5c61f732e7a41", func := "annals/annalslaw5.IndexPlays", spec := "indexPlays", unfollowed := true, recurses := true, apart := false, narrowed := true }
def IndexPlaysUptoSaid : Prop := indexPlaysUptoRow.holds Try.pinned (OpenSpec.upto indexPlaysSpec)

/-- 'annalslaw5.IndexWithin', WHERE WHAT IT READS IS OF BULK AT MOST 1048576: true; the input reads as it did. -/
def indexWithinUptoRow : OpenClaim := { program := "ytceokpklcfmadaa", sum := "d57fff2da20cd9f97a14d6f3cf73600bb640601a357f40cb12c5c61f732e7a41", func := "annals/annalslaw5.IndexWithin", spec := "indexWithin", unfollowed := true, recurses := true, apart := false, narrowed := true }
def IndexWithinUptoSaid : Prop := indexWithinUptoRow.holds Try.pinned (OpenSpec.upto indexWithinSpec)

/-- 'annalslaw5.IndexWrites', WHERE WHAT IT READS IS OF BULK AT MOST 1048576: true; the input reads as it did. -/
def indexWritesUptoRow : OpenClaim := { program := "ytceokpklcfmadaa", sum := "d57fff2da20cd9f97a14d6f3cf73600bb640601a357f40cb12c5c61f732e7a41", func := "annals/annalslaw5.IndexWrites", spec := "indexWrites", unfollowed := true, recurses := true, apart := false, narrowed := true }
def IndexWritesUptoSaid : Prop := indexWritesUptoRow.holds Try.pinned (OpenSpec.upto indexWritesSpec)

/-- 'annalslaw5.IndexDropped', WHERE WHAT IT READS IS OF BULK AT MOST 1048576: true; the input reads as it did. -/
def indexDroppedUptoRow : OpenClaim := { program := "ytceokpklcfmadaa", sum := "d57fff2da20cd9f97a14d6f3cf73600bb640601a357f40cb12c5c61f732e7a41", func := "annals/annalslaw5.IndexDropped", spec := "indexDropped", unfollowed := true, recurses := true, apart := false, narrowed := true }
def IndexDroppedUptoSaid : Prop := indexDroppedUptoRow.holds Try.pinned (OpenSpec.upto indexDroppedSpec)

end Rows
end Go.Proofs.Ytceokpklcfmadaa
