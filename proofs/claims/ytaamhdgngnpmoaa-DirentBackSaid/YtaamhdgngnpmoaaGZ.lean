/-
  THE PROGRAM's dirent keeps the contracts.
-/
import Derived.Test.YtaamhdgngnpmoaaGX
import Derived.Test.YtaamhdgngnpmoaaGY
namespace Go.Proofs.Ytaamhdgngnpmoaa
open Go.RowKit Dir

theorem direntAll : DirC where
  name := fun s w h => DiName_any s h w
  put := fun l v w h1 h2 h3 => DiPut_any l h1 h2 v w h3
  get := fun b v w h1 h2 => DiGet_any b h1 v w h2
  find := fun l s v w h1 _ h3 => DiFind_any l s h1 v w h3
  drop := fun l i v w h1 _ h3 h4 => DiDrop_any l i h1 h3 v w h4
  names := fun l v w h1 _ h3 => DiNames_any l h1 v w h3
end Go.Proofs.Ytaamhdgngnpmoaa
