/-
  NARROWER THAN 'FOR EVERY INPUT', by the rows' own cells (each row's printed sentence says how): DigestTells: laid · DigestParts: laid · DigestApart: laid · DigestOwn: laid · DigestFills: laid · DigestCuts: laid.
  DERIVED. THE GIVEN ROWS OF THIS SEAT. 6 by the template 'for every input the law returns true; each argument reads behind the call as it read before'; 0 by the template 'total and deterministic' (their statements: YtfcidddpoofjgaaDoorTotals.lean).
  GIVEN WITH THE SEED: the statements are not yours to turn. If you find one false, say at which input.
  Laid BY PROGRAM, IN A SANDBOX (cutbox-rows.mjs): the forced cells as the released guide's own fill.sh prints them over the translation 1bd7a6afc335647e… (all of the seat's roots in one cut). By AI agents, Wed Nov 11 2026. No macro, syntax, notation, axiom, sorry.
-/
import Derived.Test.YtfcidddpoofjgaaDoorChecked
import GoSem.Claim
import GoSem.ClaimJoined
import GoSem.ClaimMapViews
import Derived.JoinedTies
import Derived.KernelRfl
namespace Go.Proofs.YtfcidddpoofjgaaDoor
/- THE CELL 'sum', in the pinned program and in every row, IS THE sha256 OF THE DUMP (.gsa) THAT YtfcidddpoofjgaaDoorProg.lean LOADS. Nothing in Lean hashes anything: it is a label: what it is worth is what the hold of that sum in a sandbox is worth. -/
noncomputable def Tryd.pinned : Pinned := { name := "ytfcidddpoofjgaadoor", sum := "1bd7a6afc335647eaa3b3027ee412c9549be37b56c11f3b41515711b7414c8ca", checked := Tryd.checked }
namespace Rows
def none {H : Type} : Left H := { results := [], args := [] }

/- WHAT THE LISTED PACKAGE-LEVEL VARIABLES READ AS WHEN THE CALL BEGINS. Each datum BY PROGRAM (the guide's laid-datum.mjs) off the statement by which the dump's own 'gosem.cut.vars' lays the variable. In a bare row this is a premise. The card (YtfcidddpoofjgaaDoorCards.lean) ties it to the program's text. -/
def laid_serinette_digest_sines {H : Type} : DataW H := .agg [.lit (.int .u32 3614090360), .lit (.int .u32 3905402710), .lit (.int .u32 606105819), .lit (.int .u32 3250441966), .lit (.int .u32 4118548399), .lit (.int .u32 1200080426), .lit (.int .u32 2821735955), .lit (.int .u32 4249261313), .lit (.int .u32 1770035416), .lit (.int .u32 2336552879), .lit (.int .u32 4294925233), .lit (.int .u32 2304563134), .lit (.int .u32 1804603682), .lit (.int .u32 4254626195), .lit (.int .u32 2792965006), .lit (.int .u32 1236535329), .lit (.int .u32 4129170786), .lit (.int .u32 3225465664), .lit (.int .u32 643717713), .lit (.int .u32 3921069994), .lit (.int .u32 3593408605), .lit (.int .u32 38016083), .lit (.int .u32 3634488961), .lit (.int .u32 3889429448), .lit (.int .u32 568446438), .lit (.int .u32 3275163606), .lit (.int .u32 4107603335), .lit (.int .u32 1163531501), .lit (.int .u32 2850285829), .lit (.int .u32 4243563512), .lit (.int .u32 1735328473), .lit (.int .u32 2368359562), .lit (.int .u32 4294588738), .lit (.int .u32 2272392833), .lit (.int .u32 1839030562), .lit (.int .u32 4259657740), .lit (.int .u32 2763975236), .lit (.int .u32 1272893353), .lit (.int .u32 4139469664), .lit (.int .u32 3200236656), .lit (.int .u32 681279174), .lit (.int .u32 3936430074), .lit (.int .u32 3572445317), .lit (.int .u32 76029189), .lit (.int .u32 3654602809), .lit (.int .u32 3873151461), .lit (.int .u32 530742520), .lit (.int .u32 3299628645), .lit (.int .u32 4096336452), .lit (.int .u32 1126891415), .lit (.int .u32 2878612391), .lit (.int .u32 4237533241), .lit (.int .u32 1700485571), .lit (.int .u32 2399980690), .lit (.int .u32 4293915773), .lit (.int .u32 2240044497), .lit (.int .u32 1873313359), .lit (.int .u32 4264355552), .lit (.int .u32 2734768916), .lit (.int .u32 1309151649), .lit (.int .u32 4149444226), .lit (.int .u32 3174756917), .lit (.int .u32 718787259), .lit (.int .u32 3951481745)]

/-- 'serinettelaw05.DigestTells': WHATEVER THE INPUT: true; the input reads as it did. -/
def digestTellsSpec : ChangeSpec := { name := "digestTells", fn := fun _ => fun
  | [d] => { results := [.lit (.bool true)], args := [d] }
  | _ => none }
def digestTellsRow : OpenClaim := { program := "ytfcidddpoofjgaadoor", sum := "1bd7a6afc335647eaa3b3027ee412c9549be37b56c11f3b41515711b7414c8ca", func := "serinette/serinettelaw05.DigestTells", spec := "digestTells", unfollowed := true, recurses := true, named := ["serinette/digest.sines"], apart := false, laid := [("serinette/digest.sines", laid_serinette_digest_sines)] }
def DigestTellsSaid : Prop := digestTellsRow.holds Tryd.pinned (OpenSpec.ofChange digestTellsSpec)

/-- ITS FALSE NEIGHBOUR: 'it returns false'. Refute it at one input. -/
def digestTellsWrong : ChangeSpec := { name := "digestTells", fn := fun _ => fun
  | [d] => { results := [.lit (.bool false)], args := [d] }
  | _ => none }
def DigestTellsWrongFalsely : Prop := digestTellsRow.holds Tryd.pinned (OpenSpec.ofChange digestTellsWrong)

/-- 'serinettelaw05.DigestParts': WHATEVER THE INPUT: true; the input reads as it did. -/
def digestPartsSpec : ChangeSpec := { name := "digestParts", fn := fun _ => fun
  | [d] => { results := [.lit (.bool true)], args := [d] }
  | _ => none }
def digestPartsRow : OpenClaim := { program := "ytfcidddpoofjgaadoor", sum := "1bd7a6afc335647eaa3b3027ee412c9549be37b56c11f3b41515711b7414c8ca", func := "serinette/serinettelaw05.DigestParts", spec := "digestParts", unfollowed := true, recurses := true, named := ["serinette/digest.sines"], apart := false, laid := [("serinette/digest.sines", laid_serinette_digest_sines)] }
def DigestPartsSaid : Prop := digestPartsRow.holds Tryd.pinned (OpenSpec.ofChange digestPartsSpec)

/-- ITS FALSE NEIGHBOUR: 'it returns false'. Refute it at one input. -/
def digestPartsWrong : ChangeSpec := { name := "digestParts", fn := fun _ => fun
  | [d] => { results := [.lit (.bool false)], args := [d] }
  | _ => none }
def DigestPartsWrongFalsely : Prop := digestPartsRow.holds Tryd.pinned (OpenSpec.ofChange digestPartsWrong)

/-- 'serinettelaw05.DigestApart': WHATEVER THE INPUT: true; the input reads as it did. -/
def digestApartSpec : ChangeSpec := { name := "digestApart", fn := fun _ => fun
  | [d1, d2, d3] => { results := [.lit (.bool true)], args := [d1, d2, d3] }
  | _ => none }
def digestApartRow : OpenClaim := { program := "ytfcidddpoofjgaadoor", sum := "1bd7a6afc335647eaa3b3027ee412c9549be37b56c11f3b41515711b7414c8ca", func := "serinette/serinettelaw05.DigestApart", spec := "digestApart", unfollowed := true, recurses := true, named := ["serinette/digest.sines"], apart := false, laid := [("serinette/digest.sines", laid_serinette_digest_sines)] }
def DigestApartSaid : Prop := digestApartRow.holds Tryd.pinned (OpenSpec.ofChange digestApartSpec)

/-- ITS FALSE NEIGHBOUR: 'it returns false'. Refute it at one input. -/
def digestApartWrong : ChangeSpec := { name := "digestApart", fn := fun _ => fun
  | [d1, d2, d3] => { results := [.lit (.bool false)], args := [d1, d2, d3] }
  | _ => none }
def DigestApartWrongFalsely : Prop := digestApartRow.holds Tryd.pinned (OpenSpec.ofChange digestApartWrong)

/-- 'serinettelaw05.DigestOwn': WHATEVER THE INPUT: true; the input reads as it did. -/
def digestOwnSpec : ChangeSpec := { name := "digestOwn", fn := fun _ => fun
  | [d1, d2] => { results := [.lit (.bool true)], args := [d1, d2] }
  | _ => none }
def digestOwnRow : OpenClaim := { program := "ytfcidddpoofjgaadoor", sum := "1bd7a6afc335647eaa3b3027ee412c9549be37b56c11f3b41515711b7414c8ca", func := "serinette/serinettelaw05.DigestOwn", spec := "digestOwn", unfollowed := true, recurses := true, named := ["serinette/digest.sines"], apart := false, laid := [("serinette/digest.sines", laid_serinette_digest_sines)] }
def DigestOwnSaid : Prop := digestOwnRow.holds Tryd.pinned (OpenSpec.ofChange digestOwnSpec)

/-- ITS FALSE NEIGHBOUR: 'it returns false'. Refute it at one input. -/
def digestOwnWrong : ChangeSpec := { name := "digestOwn", fn := fun _ => fun
  | [d1, d2] => { results := [.lit (.bool false)], args := [d1, d2] }
  | _ => none }
def DigestOwnWrongFalsely : Prop := digestOwnRow.holds Tryd.pinned (OpenSpec.ofChange digestOwnWrong)

/-- 'serinettelaw05.DigestFills': WHATEVER THE INPUT: true; the input reads as it did. -/
def digestFillsSpec : ChangeSpec := { name := "digestFills", fn := fun _ => fun
  | [d1, d2] => { results := [.lit (.bool true)], args := [d1, d2] }
  | _ => none }
def digestFillsRow : OpenClaim := { program := "ytfcidddpoofjgaadoor", sum := "1bd7a6afc335647eaa3b3027ee412c9549be37b56c11f3b41515711b7414c8ca", func := "serinette/serinettelaw05.DigestFills", spec := "digestFills", unfollowed := true, recurses := true, named := ["serinette/digest.sines"], apart := false, laid := [("serinette/digest.sines", laid_serinette_digest_sines)] }
def DigestFillsSaid : Prop := digestFillsRow.holds Tryd.pinned (OpenSpec.ofChange digestFillsSpec)

/-- ITS FALSE NEIGHBOUR: 'it returns false'. Refute it at one input. -/
def digestFillsWrong : ChangeSpec := { name := "digestFills", fn := fun _ => fun
  | [d1, d2] => { results := [.lit (.bool false)], args := [d1, d2] }
  | _ => none }
def DigestFillsWrongFalsely : Prop := digestFillsRow.holds Tryd.pinned (OpenSpec.ofChange digestFillsWrong)

/-- 'serinettelaw05.DigestCuts': WHATEVER THE INPUT: true; the input reads as it did. -/
def digestCutsSpec : ChangeSpec := { name := "digestCuts", fn := fun _ => fun
  | [d1, d2, d3] => { results := [.lit (.bool true)], args := [d1, d2, d3] }
  | _ => none }
def digestCutsRow : OpenClaim := { program := "ytfcidddpoofjgaadoor", sum := "1bd7a6afc335647eaa3b3027ee412c9549be37b56c11f3b41515711b7414c8ca", func := "serinette/serinettelaw05.DigestCuts", spec := "digestCuts", unfollowed := true, recurses := true, named := ["serinette/digest.sines"], apart := false, laid := [("serinette/digest.sines", laid_serinette_digest_sines)] }
def DigestCutsSaid : Prop := digestCutsRow.holds Tryd.pinned (OpenSpec.ofChange digestCutsSpec)

/-- ITS FALSE NEIGHBOUR: 'it returns false'. Refute it at one input. -/
def digestCutsWrong : ChangeSpec := { name := "digestCuts", fn := fun _ => fun
  | [d1, d2, d3] => { results := [.lit (.bool false)], args := [d1, d2, d3] }
  | _ => none }
def DigestCutsWrongFalsely : Prop := digestCutsRow.holds Tryd.pinned (OpenSpec.ofChange digestCutsWrong)

/- THE SECOND FORM. 'bulk': how many values and letters a reading holds, each counted each time it is reached (what is shared counts as often as it is met; a slice's spare places count too). A statement '..UptoSaid' is the law's where the arguments, and the package variables that the reading takes, are together of bulk at most 1048576: NARROWER than '..Said'. Prove '..Said' where nothing that the law and all that it calls make is longer than what came in: it says more and counts as full. Else prove '..UptoSaid'. A law counts once. -/
mutual
def uptoBulk {H : Type} : DataW H → Nat
  | .lit (.string bytes) => bytes.length + 1
  | .lit _ => 1
  | .nil => 1
  | .ptr d => uptoBulk d + 1
  | .slice elems spare => uptoBulkAll elems + uptoBulkAll spare + 1
  | .agg parts => uptoBulkAll parts + 1
  | .iface _ d => uptoBulk d + 1
  | .map entries => uptoBulkEntries entries + 1
  | .held _ => 1
def uptoBulkAll {H : Type} : List (DataW H) → Nat
  | [] => 0
  | d :: r => uptoBulk d + uptoBulkAll r
def uptoBulkEntries {H : Type} : List (Lit × DataW H) → Nat
  | [] => 0
  | x :: r => uptoBulkEntry x + uptoBulkEntries r
def uptoBulkEntry {H : Type} : Lit × DataW H → Nat
  | (.string bytes, d) => bytes.length + uptoBulk d + 1
  | (_, d) => uptoBulk d + 1
 end
def uptoSmall : (H : Type) → List (DataW H) → Bool := fun _ ds => decide (uptoBulkAll ds ≤ 1048576)
def OpenSpec.upto (s : _root_.Go.ChangeSpec) : _root_.Go.OpenSpec := { _root_.Go.OpenSpec.ofChange s with cond := some uptoSmall }

/-- 'serinettelaw05.DigestTells', WHERE WHAT IT READS IS OF BULK AT MOST 1048576: true; the input reads as it did. -/
def digestTellsUptoRow : OpenClaim := { program := "ytfcidddpoofjgaadoor", sum := "1bd7a6afc335647eaa3b3027ee412c9549be37b56c11f3b41515711b7414c8ca", func := "serinette/serinettelaw05.DigestTells", spec := "digestTells", unfollowed := true, recurses := true, named := ["serinette/digest.sines"], apart := false, laid := [("serinette/digest.sines", laid_serinette_digest_sines)], narrowed := true }
def DigestTellsUptoSaid : Prop := digestTellsUptoRow.holds Tryd.pinned (OpenSpec.upto digestTellsSpec)

/-- 'serinettelaw05.DigestParts', WHERE WHAT IT READS IS OF BULK AT MOST 1048576: true; the input reads as it did. -/
def digestPartsUptoRow : OpenClaim := { program := "ytfcidddpoofjgaadoor", sum := "1bd7a6afc335647eaa3b3027ee412c9549be37b56c11f3b41515711b7414c8ca", func := "serinette/serinettelaw05.DigestParts", spec := "digestParts", unfollowed := true, recurses := true, named := ["serinette/digest.sines"], apart := false, laid := [("serinette/digest.sines", laid_serinette_digest_sines)], narrowed := true }
def DigestPartsUptoSaid : Prop := digestPartsUptoRow.holds Tryd.pinned (OpenSpec.upto digestPartsSpec)

/-- 'serinettelaw05.DigestApart', WHERE WHAT IT READS IS OF BULK AT MOST 1048576: true; the input reads as it did. -/
def digestApartUptoRow : OpenClaim := { program := "ytfcidddpoofjgaadoor", sum := "1bd7a6afc335647eaa3b3027ee412c9549be37b56c11f3b41515711b7414c8ca", func := "serinette/serinettelaw05.DigestApart", spec := "digestApart", unfollowed := true, recurses := true, named := ["serinette/digest.sines"], apart := false, laid := [("serinette/digest.sines", laid_serinette_digest_sines)], narrowed := true }
def DigestApartUptoSaid : Prop := digestApartUptoRow.holds Tryd.pinned (OpenSpec.upto digestApartSpec)

/-- 'serinettelaw05.DigestOwn', WHERE WHAT IT READS IS OF BULK AT MOST 1048576: true; the input reads as it did. -/
def digestOwnUptoRow : OpenClaim := { program := "ytfcidddpoofjgaadoor", sum := "1bd7a6afc335647eaa3b3027ee412c9549be37b56c11f3b41515711b7414c8ca", func := "serinette/serinettelaw05.DigestOwn", spec := "digestOwn", unfollowed := true, recurses := true, named := ["serinette/digest.sines"], apart := false, laid := [("serinette/digest.sines", laid_serinette_digest_sines)], narrowed := true }
def DigestOwnUptoSaid : Prop := digestOwnUptoRow.holds Tryd.pinned (OpenSpec.upto digestOwnSpec)

/-- 'serinettelaw05.DigestFills', WHERE WHAT IT READS IS OF BULK AT MOST 1048576: true; the input reads as it did. -/
def digestFillsUptoRow : OpenClaim := { program := "ytfcidddpoofjgaadoor", sum := "1bd7a6afc335647eaa3b3027ee412c9549be37b56c11f3b41515711b7414c8ca", func := "serinette/serinettelaw05.DigestFills", spec := "digestFills", unfollowed := true, recurses := true, named := ["serinette/digest.sines"], apart := false, laid := [("serinette/digest.sines", laid_serinette_digest_sines)], narrowed := true }
def DigestFillsUptoSaid : Prop := digestFillsUptoRow.holds Tryd.pinned (OpenSpec.upto digestFillsSpec)

/-- 'serinettelaw05.DigestCuts', WHERE WHAT IT READS IS OF BULK AT MOST 1048576: true; the input reads as it did. -/
def digestCutsUptoRow : OpenClaim := { program := "ytfcidddpoofjgaadoor", sum := "1bd7a6afc335647eaa3b3027ee412c9549be37b56c11f3b41515711b7414c8ca", func := "serinette/serinettelaw05.DigestCuts", spec := "digestCuts", unfollowed := true, recurses := true, named := ["serinette/digest.sines"], apart := false, laid := [("serinette/digest.sines", laid_serinette_digest_sines)], narrowed := true }
def DigestCutsUptoSaid : Prop := digestCutsUptoRow.holds Tryd.pinned (OpenSpec.upto digestCutsSpec)

end Rows
end Go.Proofs.YtfcidddpoofjgaaDoor
