/-
  OF THE WALK: HmK.
-/
import Derived.Deep.RegionHeld3
import Derived.StillTailTactics
import Derived.Test.YthbmknpbcgnabaaGreatDoorP01
import Derived.Test.YthbmknpbcgnabaaGreatDoorP03
section
namespace Go.Proofs.YthbmknpbcgnabaaGreatDoor.Hm
open Go.RowKit Sha
theorem info8 : (Tryz.prog.info? 5).map (fun i => (i.zero, i.size, i.bytes)) = some (some (.int .u8 0), 1, 1) := by kernel_rfl
theorem oneC8 (l : List UInt8) : ∀ y ∈ l.map V8, y.oneCell' = true := fun y hy => by obtain ⟨x, _, rfl⟩ := List.mem_map.1 hy; rfl
theorem from_new (w : World) (e : TypeId) (ys : List Value) : From (w.alloc (.cells ys.toArray e)) (.slice (some ⟨w.heap.size, 0, none⟩) ys.length ys.length) ys :=
  .inr ⟨w.heap.size, 0, ys.length, rfl, by simp, (Row.new w e ys).sees⟩
end Go.Proofs.YthbmknpbcgnabaaGreatDoor.Hm
end
section
namespace Go.Proofs.YthbmknpbcgnabaaGreatDoor.Hm
open Go.RowKit Sha
end Go.Proofs.YthbmknpbcgnabaaGreatDoor.Hm
end
section
namespace Go.Proofs.YthbmknpbcgnabaaGreatDoor.Hm
open Go.RowKit Sha
end Go.Proofs.YthbmknpbcgnabaaGreatDoor.Hm
end
section
namespace Go.Proofs.YthbmknpbcgnabaaGreatDoor.Hm
open Go.RowKit Sha
theorem cell_app {w w' : World} {B : Nat} {e : TypeId} {v : Value} {ys : List Value} {p : Addr} {u : Value} (h : Own w B e v ys) (hg : w.grownBy w' v.ownBlock) (hB : B ≤ w.heap.size) (hp : p.block < B) (hc : w.cell? p = some u) : w'.cell? p = some u :=
  (World.cell?_of_block (w := w) (hg.block p.block (by omega) (fun e => by have := (h.lt e.symm).1; omega))).trans hc
end Go.Proofs.YthbmknpbcgnabaaGreatDoor.Hm
end
