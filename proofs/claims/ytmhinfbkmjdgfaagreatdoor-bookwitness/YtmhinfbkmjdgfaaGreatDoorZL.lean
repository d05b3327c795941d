import Derived.Deep.RegionHeld
import Derived.Test.YtmhinfbkmjdgfaaGreatDoorZ00
set_option linter.unusedVariables false
set_option linter.unusedSimpArgs false
namespace Go.Proofs.YtmhinfbkmjdgfaaGreatDoor
open Go.RowKit
section
variable {P:Program}{md:Region.Mode}{ops:Array Oper}{Q:Exit->Act->World->Prop}{S:World->Prop}{fuel:Nat}{listed:Array Bool}{a:Act}{w:World}
variable {oi:Oper}{v:Value}
def qd (k m:Nat):Array Bool:=((List.range k).map (λi=>m.testBit i)).toArray
theorem zz:(∀{α:Type} {l:List α} {i:Nat} (h:i<l.toArray.size),l.toArray[i]=l[i]'(by simpa using h))/\(∀{α:Type} {a:α} {l:List α} {i:Nat} (h:i+1<(a::l).length),(a::l)[i+1]=l[i]'(by simpa using h))/\(∀{α:Type} {a:α} {l:List α} (h:0<(a::l).length),(a::l)[0]=a)/\(∀{a:Act} {d:Tmp} {v:Value},a.put (some d) v={ a with tmps:=a.tmps.setIfInBounds d v })/\(∀{a:Act} {v:Value},a.put none v=a)/\(∀{α:Type} {l:List α} {i:Nat} {a:α},l.toArray.setIfInBounds i a=(l.set i a).toArray)/\(∀{α:Type} {a b:α} {l:List α},(a::l).set 0 b=b::l)/\(∀{α:Type} {a b:α} {l:List α} {i:Nat},(a::l).set (i+1) b=a::l.set i b) :=
 ⟨λ_=>rfl,λ_=>rfl,λ_=>rfl,rfl,rfl,by simp,rfl,rfl⟩
theorem nm (k m f2:Nat)(h:wpAnyH P md ops Q S f2 (qd k m) a w)(hl:listed=qd k m:=by kernel_rfl)(hf:fuel=f2:=by kernel_rfl):wpAnyH P md ops Q S fuel listed a w:=by
 subst hl hf
 exact h
theorem tn (i k m f2:Nat)(h:wpAnyH P md ops Q S f2 (qd k m) (a.put oi.dst v) w)(hi:ops[i]?=some oi:=by exact rfl)(hs:Region.noSelect ops=true:=by kernel_rfl)(hf:Region.free md ops listed i=true:=by kernel_rfl)(hr:(Region.ready md ops listed).contains i=true:=by kernel_rfl)(hw:Region.wanted oi (yielded ops a.tmps)=true:=by rfl)(hy:∀w,S w->(execOp a.eval oi).run P w=.ok (.value v) w:=by intro w hSw;(try dsimp only at hSw);go_simp;try with_reducible rfl)(hQ:∀c a w,Q (.panic c) (a.put oi.dst v) w->Q (.panic c) a w:=by exact λ_ _ _ h=>h)(hS:S w:=by assumption)(hl:listed.setIfInBounds i true=qd k m:=by kernel_rfl)(hz:fuel=f2+1:=by kernel_rfl):wpAnyH P md ops Q S fuel listed a w:=by
 subst hz;rw [<-hl] at h;exact wpAnyH_take hi hs hf hr hQ (Or.inl ⟨hw,hy⟩) hS h
theorem tp (i k m f2:Nat)(hP:∀c a d v w,Q (.panic c) (Act.put a d v) w->Q (.panic c) a w)(h:wpAnyH P md ops Q S f2 (qd k m) (a.put oi.dst v) w)(hi:ops[i]?=some oi:=by exact rfl)(hs:Region.noSelect ops=true:=by kernel_rfl)(hf:Region.free md ops listed i=true:=by kernel_rfl)(hr:(Region.ready md ops listed).contains i=true:=by kernel_rfl)(hw:Region.wanted oi (yielded ops a.tmps)=true:=by rfl)(hy:∀w,S w->(execOp a.eval oi).run P w=.ok (.value v) w:=by intro w hSw;(try dsimp only at hSw);go_simp;try with_reducible rfl)(hS:S w:=by assumption)(hl:listed.setIfInBounds i true=qd k m:=by kernel_rfl)(hz:fuel=f2+1:=by kernel_rfl):wpAnyH P md ops Q S fuel listed a w :=
 tn i k m f2 h hi hs hf hr hw hy (λc a w=>hP c a _ _ w) hS hl hz
theorem sk (i k m f2:Nat)(hP:∀c a d v w,Q (.panic c) (Act.put a d v) w->Q (.panic c) a w)(h:wpAnyH P md ops Q S f2 (qd k m) (a.put oi.dst undef) w)(hi:ops[i]?=some oi:=by exact rfl)(hs:Region.noSelect ops=true:=by kernel_rfl)(hf:Region.free md ops listed i=true:=by kernel_rfl)(hr:(Region.ready md ops listed).contains i=true:=by kernel_rfl)(hw:Region.wanted oi (yielded ops a.tmps)=false:=by rfl)(hS:S w:=by assumption)(hl:listed.setIfInBounds i true=qd k m:=by kernel_rfl)(hz:fuel=f2+1:=by kernel_rfl):wpAnyH P md ops Q S fuel listed a w:=by
 subst hz;rw [<-hl] at h;exact wpAnyH_take hi hs hf hr (λc a w=>hP c a _ _ w) (Or.inr ⟨hw,rfl⟩) hS h
theorem tv (i:Nat)(hy:∀w,S w->(execOp a.eval oi).run P w=.ok (.value v) w)(h:wpAnyH P md ops Q S fuel (listed.setIfInBounds i true) (a.put oi.dst v) w)(hi:ops[i]?=some oi:=by exact rfl)(hs:Region.noSelect ops=true:=by kernel_rfl)(hf:Region.free md ops listed i=true:=by kernel_rfl)(hr:(Region.ready md ops listed).contains i=true:=by kernel_rfl)(hw:Region.wanted oi (yielded ops a.tmps)=true:=by rfl)(hQ:∀c a w,Q (.panic c) (a.put oi.dst v) w->Q (.panic c) a w:=by exact λ_ _ _ h=>h)(hS:S w:=by assumption):wpAnyH P md ops Q S (fuel+1) listed a w :=
 wpAnyH_take hi hs hf hr hQ (Or.inl ⟨hw,hy⟩) hS h
theorem zr (i:Nat){o:Oper}(h:∀K':Act->World->Prop,Shut (∀a w,S w->(S w->wpAnyH P md ops Q S fuel (listed.setIfInBounds i true) a w)->K' a w)->if Region.wanted o (yielded ops a.tmps)=true then Oper.wp P o a w K' Q else K' (a.put o.dst undef) w)(ho:ops[i]?=some o:=by exact rfl)(hr:Region.ready md ops listed=[i]:=by kernel_rfl):wpAnyH P md ops Q S (fuel+1) listed a w :=
 wpAnyH_ready hr (by simp) (AllReadyH.cons ho h AllReadyH.nil)
theorem zk {K:Act->World->Prop}(hK:Shut (∀a w,S w->(S w->wpAnyH P md ops Q S fuel listed a w)->K a w))(k m f2:Nat)(hS:S w)(h:S w->wpAnyH P md ops Q S f2 (qd k m) a w)(hl:listed=qd k m:=by kernel_rfl)(hf:fuel=f2:=by kernel_rfl):K a w :=
 hK.out a w hS λhs=>nm k m f2 (h hs) hl hf
theorem zn (h:Q .normal a w)(fuel:Nat)(hr:Region.ready md ops listed=[]:=by kernel_rfl):wpAnyH P md ops Q S fuel listed a w:=wpAnyH_done hr h fuel
end
end Go.Proofs.YtmhinfbkmjdgfaaGreatDoor
