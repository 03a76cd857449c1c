/-
  Package script: ScriptCuts, all cases.
-/
import Derived.Test.YtnkijpjknbelfaaDoorSxc
namespace Go.Proofs.YtnkijpjknbelfaaDoor
open Go.RowKit

theorem lawCuts (s : ST) (A1 A2 : Option Addr) (c1 c2 : Nat) (cut : Int) (more : List ST) (A : Option Addr) (c : Nat) (w : World) (hE : Env w) (hs : StF w (Old w) s A1 A2) (hm : StsIn w (Old w) more A) (zs : szS s ≤ 2000000) (zm : sumOf szS more ≤ 2000000) :
    Calls Tryd.prog 5 #[.agg (stA s A1 c1 A2 c2), .int .i64 cut, .slice A more.length c] w fun e w' => e = .returned (.bool true) ∧ Below w.heap.size w w' := by
  cases fs : fewB [s]
  · exact cuts_1 s A1 A2 c1 c2 cut more A c w hE hs hm zs zm fs
  · cases fm : fewB more
    · exact cuts_2 s A1 A2 c1 c2 cut more A c w hE hs hm zs zm fs fm
    · cases r : rightS s
      · exact cuts_3 s A1 A2 c1 c2 cut more A c w hE hs hm zs zm fs fm r
      · cases rm : more.all rightS
        · exact cuts_4 s A1 A2 c1 c2 cut more A c w hE hs hm zs zm fs fm r rm
        · exact cuts_5 s A1 A2 c1 c2 cut more A c w hE hs hm zs zm fs fm r rm
end Go.Proofs.YtnkijpjknbelfaaDoor
