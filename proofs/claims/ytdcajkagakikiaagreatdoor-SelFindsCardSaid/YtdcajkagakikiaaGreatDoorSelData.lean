import Derived.Test.YtdcajkagakikiaaGreatDoorQ29
namespace Go.Proofs.YtdcajkagakikiaaGreatDoor
set_option maxHeartbeats 64000000
set_option linter.unusedSimpArgs false
set_option linter.unusedVariables false
open Go.RowKit Go.ChangeShapes Go.WideShapes Go.Deep Go.Joins
section
variable {H:Type} {enc:TypeId×Value->H} {w:World} {base:Nat} {spare:Nat->Bool} {held:Bool}
set_option maxRecDepth 100000 in
theorem sel_open{v:Value}{r:Reach}{b0:Nat}{d:DataW H}{p:List MemPlace}(hv:Value.okWide Tryz.prog w r b0 28 v)(h:DataW.Trod enc Tryz.prog w base spare held 28 v d p) :
  ∃(s:Se) (po:Option Addr) (pc:Nat),v=seV s po pc/\InSel w po pc s:=by
 obtain⟨cs,rfl,hsz⟩:=okWide_struct Tryz.underlying28 hv;have hC:Tryz.prog.cellsOf 28=5:=by kernel_rfl
 obtain⟨fuel,hf⟩:=h;have A0:cs.toList.length=5:=by simpa using hsz.trans hC
 obtain⟨ks,hks⟩:=Yn (cs.toList);have A1:DataW.trod enc Tryz.prog w base spare held fuel 28 cs.toList=some (d,p):=hf;rw[hks]at A1 A0
 match ks,A0 with
 | [c0,c1,c2,c3,c4],_ =>
  obtain⟨xs,n,_,_,_,hlen,hg⟩:=DataW.trod_struct Tryz.underlying28 A1
  match xs,hlen with
  | [y0,y1,y2,y3,y4],_ =>
   have k3:Tryz.prog.cellsOf 3=1:=by kernel_rfl
   have k4:Tryz.prog.cellsOf 4=1:=by kernel_rfl
   have k5:Tryz.prog.cellsOf 26=1:=by kernel_rfl
   have g0:DataW.trod enc Tryz.prog w base spare held n 4 [c0]=some y0:=by
    have h:DataW.trod enc Tryz.prog w base spare held n 4 (([c0,c1,c2,c3,c4].drop 0).take (Tryz.prog.cellsOf 4))=some y0:=hg 0 _ rfl;rw[k4]at h;exact h
   have g1:DataW.trod enc Tryz.prog w base spare held n 3 [c1]=some y1:=by
    have h:DataW.trod enc Tryz.prog w base spare held n 3 (([c0,c1,c2,c3,c4].drop 1).take (Tryz.prog.cellsOf 3))=some y1:=hg 1 _ rfl;rw[k3]at h;exact h
   have g2:DataW.trod enc Tryz.prog w base spare held n 4 [c2]=some y2:=by
    have h:DataW.trod enc Tryz.prog w base spare held n 4 (([c0,c1,c2,c3,c4].drop 2).take (Tryz.prog.cellsOf 4))=some y2:=hg 2 _ rfl;rw[k4]at h;exact h
   have g3:DataW.trod enc Tryz.prog w base spare held n 4 [c3]=some y3:=by
    have h:DataW.trod enc Tryz.prog w base spare held n 4 (([c0,c1,c2,c3,c4].drop 3).take (Tryz.prog.cellsOf 4))=some y3:=hg 3 _ rfl;rw[k4]at h;exact h
   have g4:DataW.trod enc Tryz.prog w base spare held n 26 [c4]=some y4:=by
    have h:DataW.trod enc Tryz.prog w base spare held n 26 (([c0,c1,c2,c3,c4].drop 4).take (Tryz.prog.cellsOf 26))=some y4:=hg 4 _ rfl;rw[k5]at h;exact h
   obtain⟨b0,q0,_⟩:=DataW.trod_bool (by kernel_rfl) g0;obtain⟨z1,q1,_,w1⟩:=DataW.trod_int (k:=.i64) (by kernel_rfl) g1;obtain⟨b2,q2,_⟩:=DataW.trod_bool (by kernel_rfl) g2;obtain⟨b3,q3,_⟩:=DataW.trod_bool (by kernel_rfl) g3;obtain⟨po,zs,pc,rfl,a1,a2,a3,-⟩:=kids_open g4;obtain rfl:c0=.bool b0:=by simpa using q0
   obtain rfl:c1=.int .i64 z1:=by simpa using q1
   obtain rfl:c2=.bool b2:=by simpa using q2
   obtain rfl:c3=.bool b3:=by simpa using q3
   refine⟨⟨b0,z1,b2,b3,zs⟩,po,pc,?_,⟨a3,a1,a2⟩⟩
   have e2:cs=#[.bool b0,.int .i64 z1,.bool b2,.bool b3,.slice po zs.length pc]:=by
    apply Array.toList_inj.1
    exact hks
   rw[e2]
   rfl
end
end Go.Proofs.YtdcajkagakikiaaGreatDoor
