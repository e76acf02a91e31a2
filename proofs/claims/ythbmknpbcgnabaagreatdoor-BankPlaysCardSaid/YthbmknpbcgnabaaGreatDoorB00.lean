/-
  STEPS of regions that draw their order.
-/
import Derived.WalkKit
import Derived.Deep.Draws
import Derived.Deep.RegionHeld
import Derived.Deep.QuietTactic
set_option maxHeartbeats 40000000
namespace Go.Proofs.YthbmknpbcgnabaaGreatDoor
open Go.RowKit
section
variable {P:Program} {ops:Array Oper} {Q:Exit→Act→World→Prop} {md:Region.Mode} {S:World→Prop}
theorem tkh (i d:Nat) {x:Op} {t:TypeId} {p:String} {e:Array Edge} {g:Option (Nat × Bool)} {v:Value} {fuel:Nat} {listed:Array Bool} {a:Act} {w:World} (hi:ops[i]? = some ⟨some d,x,t,p,e,g⟩) (hS:S w) (h:wpAnyH P md ops Q S fuel (listed.setIfInBounds i true) (a.put (some d) v) w) (hy:YieldsIf P ops S ⟨some d,x,t,p,e,g⟩ v a)
    (hs:Region.noSelect ops=true:=by kernel_rfl) (hf:Region.free md ops listed i=true:=by kernel_rfl) (hr:(Region.ready md ops listed).contains i=true:=by kernel_rfl) (hQ:∀ c a w,Q (.panic c) (a.put (some d) v) w→Q (.panic c) a w:=by exact fun _ _ _ h=>h):wpAnyH P md ops Q S (fuel+1) listed a w :=
  wpAnyH_take hi hs hf hr hQ hy hS h
theorem tkq (i d:Nat) {x:Op} {t:TypeId} {p:String} {e:Array Edge} {g:Option (Nat × Bool)} {v:Value} {fuel:Nat} {listed:Array Bool} {a:Act} {w:World} (hS:S w) (h:wpAnyH P md ops Q S fuel (listed.setIfInBounds i true) (a.put (some d) v) w) (hi:ops[i]? = some ⟨some d,x,t,p,e,g⟩:=by rfl)
    (hs:Region.noSelect ops=true:=by kernel_rfl) (hf:Region.free md ops listed i=true:=by kernel_rfl) (hr:(Region.ready md ops listed).contains i=true:=by kernel_rfl) (hQ:∀ c a w,Q (.panic c) (a.put (some d) v) w→Q (.panic c) a w:=by exact fun _ _ _ h=>h)
    (hy:YieldsIf P ops S ⟨some d,x,t,p,e,g⟩ v a:=by exact Or.inl ⟨by rfl,by intro w hSw;go_simp;with_reducible rfl⟩):wpAnyH P md ops Q S (fuel+1) listed a w :=
  wpAnyH_take hi hs hf hr hQ hy hS h
theorem ae {p:Prop} (h:p):Hid p:=h
theorem rdq (i d:Nat) {x:Op} {t:TypeId} {p:String} {e:Array Edge} {g:Option (Nat × Bool)} {fuel:Nat} {listed:Array Bool} {a:Act} {w:World} (h:∀ K':Act→World→Prop,Shut (∀ a w,S w→(S w→wpAnyH P md ops Q S fuel (listed.setIfInBounds i true) a w)→K' a w)→if Region.wanted ⟨some d,x,t,p,e,g⟩ (yielded ops a.tmps)=true then Oper.wp P ⟨some d,x,t,p,e,g⟩ a w K' Q else K' (a.put (some d) undef) w)
    (hr:Region.ready md ops listed=[i]:=by kernel_rfl) (ho:ops[i]? = some ⟨some d,x,t,p,e,g⟩:=by rfl):wpAnyH P md ops Q S (fuel+1) listed a w :=
  wpAnyH_ready hr (by simp) (AllReadyH.cons ho h AllReadyH.nil)
theorem rdn (i:Nat) {x:Op} {t:TypeId} {p:String} {e:Array Edge} {g:Option (Nat × Bool)} {fuel:Nat} {listed:Array Bool} {a:Act} {w:World} (h:∀ K':Act→World→Prop,Shut (∀ a w,S w→(S w→wpAnyH P md ops Q S fuel (listed.setIfInBounds i true) a w)→K' a w)→if Region.wanted ⟨none,x,t,p,e,g⟩ (yielded ops a.tmps)=true then Oper.wp P ⟨none,x,t,p,e,g⟩ a w K' Q else K' (a.put (none) undef) w)
    (hr:Region.ready md ops listed=[i]:=by kernel_rfl) (ho:ops[i]? = some ⟨none,x,t,p,e,g⟩:=by rfl):wpAnyH P md ops Q S (fuel+1) listed a w :=
  wpAnyH_ready hr (by simp) (AllReadyH.cons ho h AllReadyH.nil)
end
end Go.Proofs.YthbmknpbcgnabaaGreatDoor
