import Derived.Test.YtdcajkagakikiaaGreatDoorQ02
namespace Go.Proofs.YtdcajkagakikiaaGreatDoor
set_option maxHeartbeats 64000000
set_option linter.unusedSimpArgs false
set_option linter.unusedVariables false
open Go.RowKit
theorem Zq3{l:List Ty}{n:Int}{ws:List ByteArray}{ks:List Int}{k:Nat}(hk:k<ws.length)(h:elemB l n (aheadOf ws ks k) (ws.getD k ⟨#[]⟩) (ks.getD k 0)=false):elemsB l n ws ks=false:=by
 unfold elemsB;rw[Bool.eq_false_iff];intro ha;rw[List.all_eq_true]at ha;have:=ha k (List.mem_range.2 hk);rw[h]at this
 cases this
theorem Zm5{l:List Ty}{n:Int}{ws:List ByteArray}{ks:List Int}(h:∀k,k<ws.length->elemB l n (aheadOf ws ks k) (ws.getD k ⟨#[]⟩) (ks.getD k 0)=true):elemsB l n ws ks=true:=by
 unfold elemsB;rw[List.all_eq_true];intro k hk;exact h k (List.mem_range.1 hk)
theorem Ze{l:List Ty}{k:Nat}(h:k<l.length):kindAt l (k:Int)=l[k].kind:=by
 unfold kindAt;rw[Yw,Yv h]
 rfl
theorem Z00{ws:List ByteArray}{ks:List Int}{p:Nat}:aheadOf ws ks (p+1)=some (ws.getD p ⟨#[]⟩,ks.getD p 0):=rfl
section
variable {l:List Ty} {n k X:Int} {w:ByteArray} {a:Option (ByteArray×Int)}
theorem Zm2(hm:markB w=true)(hX:kindAt l k=X)(h:n<2\/X=7\/X=9\/(14<=k/\k<=19)):elemB l n a w k=false:=by
 unfold elemB;rw[if_pos hm,hX,Ya (by omega)]
 rfl
theorem ZP3(hm:markB w=true)(hX:kindAt l k=X)(h:¬(n<2\/X=7\/X=9\/(14<=k/\k<=19))):elemB l n none w k=true:=by
 unfold elemB;rw[if_pos hm,hX,Yb (by omega)]
 rfl
theorem Z90{v:ByteArray}{j:Int}(hm:markB w=true)(hX:kindAt l k=X)(h:¬(n<2\/X=7\/X=9\/(14<=k/\k<=19))):elemB l n (some (v,j)) w k = !(markB v&&decide (k<=j)):=by
 unfold elemB;rw[if_pos hm,hX,Yb (by omega),Bool.true_and]
theorem Zf9(hm:markB w=false)(h:nameB w=false):elemB l n a w k=false:=by
 unfold elemB;rw[if_neg (by rw[hm];decide),h]
 rfl
theorem Zh9(hm:markB w=false)(hX:kindAt l k=X)(h:¬X=5):elemB l n a w k=false:=by
 unfold elemB;rw[if_neg (by rw[hm];decide),hX,Ya h,Bool.and_false]
 rfl
theorem Zm9(hm:markB w=false)(hn:nameB w=true)(hX:kindAt l k=X)(h:X=5):elemB l n none w k=true:=by
 unfold elemB;rw[if_neg (by rw[hm];decide),hX,Yb h,hn]
 rfl
theorem ZH1{v:ByteArray}{j:Int}(hm:markB w=false)(hn:nameB w=true)(hX:kindAt l k=X)(h:X=5):elemB l n (some (v,j)) w k=(!markB v&&Op.bytesLess v.toList w.toList):=by
 unfold elemB;rw[if_neg (by rw[hm];decide),hX,Yb h,hn]
 rfl
end
set_option maxRecDepth 100000 in
theorem ZOa(l:List Ty)(ao:Option Addr)(ac:Nat)(t:Ty)(wo ko:Option Addr)(wc kc:Nat)(w:World)(hl:ARow w ao l)(ht:TyC w wo ko t)(ll:l.length<=1000)(hin:∀k∈t.kids,0<=k/\k<(l.length:Int)) :
  Calls Tryz.prog 74 #[.slice ao l.length ac,tyV t wo wc ko kc] w fun e w'=>e=.returned (.bool (decide (0<=t.n/\t.n<=3/\t.words.length=t.kids.length)&&elemsB l t.n t.words t.kids))/\Below w.heap.size w w':=by
 obtain⟨r,hr⟩:∃r,(decide (0<=t.n/\t.n<=3/\t.words.length=t.kids.length)&&elemsB l t.n t.words t.kids)=r:=⟨_,rfl⟩
 rw[hr];have HR:=Yh hr;clear hr;unfold tyV;obtain⟨n,hn⟩:=Yn (t.words.length);obtain⟨m,hm⟩:=Yn (t.kids.length);obtain⟨L,hL⟩:=Yn (l.length);obtain⟨c,hcn⟩:=Yn (t.n);have HN:=Yh hn;have HM:=Yh hm;have HL:=Yh hL;have A8:=Yh hcn;have l1:=ht.ok.wl;have l2:=ht.ok.kl;rw[hn]at l1 ⊢;rw[hm]at l2 ⊢;rw[hL]at ll ⊢;rw[hcn];have HT:=Yh ht;have HA:=Yh hl;have HI:=Yh hin;clear hn hm ht hl hin hL hcn
 by_cases c0:n=m
 case neg =>
  have Hn:=@Yh (false=r) (by rw[<-HR.o,HN.o,HM.o,Ya (by omega)];rfl);have hq:((n:Int)==(m:Int))=false:=by rw[Yc];omega
  go_enter Tryz.func74,Tryz.ntmps74;go_wp2_with fail;go_ret;exact⟨Z0 Hn.o,(Y8 _ _).alloc (Yk _) _⟩
 subst c0
 by_cases c1:c<0
 ·have Hn:=@Yh (false=r) (by rw[<-HR.o,A8.o,Ya (by omega)];rfl)
  go_enter Tryz.func74,Tryz.ntmps74;go_wp2_with fail;go_ret;exact⟨Z0 Hn.o,(Y8 _ _).alloc (Yk _) _⟩
 by_cases c2:3<c
 ·have Hn:=@Yh (false=r) (by rw[<-HR.o,A8.o,Ya (by omega)];rfl)
  go_enter Tryz.func74,Tryz.ntmps74;go_wp2_with fail;go_ret;exact⟨Z0 Hn.o,(Y8 _ _).alloc (Yk _) _⟩
 have Ab:=@Yh (elemsB l c t.words t.kids=r) (by rw[<-HR.o,A8.o,HN.o,HM.o,Yb (by omega),Bool.true_and]);obtain⟨w1,h1,k1,q1,z1⟩:=YA w #[.int .i64 t.kind,.string t.name,.int .i64 c,.slice wo n wc,.slice ko n kc] 50;have BW:=Yh q1;obtain⟨x0,x1,x2,x3,x4⟩:=cell5 k1;have X2:=Yh x2;have X3:=Yh x3;have X4:=Yh x4;clear k1 q1 z1;go_enter Tryz.func74,Tryz.ntmps74;go_wp2_with fail;clear h1 x0 x1 x2 x3 x4;go_loopw [28] (fun i wr=>∃k:Nat,k<=n/\i=.int .i64 k/\Hi (∀j,j<k->elemB l c (aheadOf t.words t.kids j) (t.words.getD j ⟨#[]⟩) (t.kids.getD j 0)=true)/\wr=w1) (fun i _=>n-(intOf i).toNat)
 case atStart=>exact⟨0,Yl _,rfl,Yh (fun j hj=>absurd hj (Yr _)),by first|rfl|trivial⟩
 case round =>
  obtain⟨k,hk,rfl,Hall,rfl⟩:=hrel
  by_cases hkl:k<n
  ·obtain⟨b,o,rfl,hb,hc⟩:=(HT.o.below BW.o).words.cells (by rw[HN.o];omega)
   obtain⟨kb,kof,rfl,hkb,hkc⟩:=(HT.o.below BW.o).kids.cells (by rw[HM.o];omega);have HC:=Yh hc;have A9:=Yh hkc;have cx:=hc k (by rw[HN.o];exact hkl);have ck:=hkc k (by rw[HM.o];exact hkl);obtain⟨g1,g2⟩:=HI.o _ (Zd (show k<t.kids.length by rw[HM.o];exact hkl));rw[HL.o]at g2;have Ac:=HT.o.ok.ws _ (ZG0 (show k<t.words.length by rw[HN.o];exact hkl));obtain⟨u,hu⟩:=Yn (t.words.getD k ⟨#[]⟩);obtain⟨z,hz⟩:∃z:Nat,t.kids.getD k 0=(z:Int):=⟨(t.kids.getD k 0).toNat,by omega⟩
   have HU:=Yh hu;have HZ:=Yh hz;rw[hu]at cx Ac;rw[hz]at ck g2;have Aa:z<L:=by omega
   obtain⟨ab,aof,rfl,hab,hac⟩:=(HA.o.below BW.o).cells (by rw[HL.o];omega);obtain⟨_,_,_,_,ca,-⟩:=hac z (by rw[HL.o];exact Aa);obtain⟨X,hX⟩:=Yn ((l[z]'(by rw[HL.o];exact Aa)).kind);rw[hX]at ca;have HX:=@Yh (kindAt l (z:Int)=X) (by rw[Ze (by rw[HL.o];exact Aa)];exact hX);clear hu hz hc hkc hb hkb hab hac hX g1;have A0:=Yh (ZC2 u wr);have A5:=Yh (ZO u wr (by omega))
   have TF:∀{b:Bool},elemB l c (aheadOf t.words t.kids k) u (z:Int)=false->false=r:=fun h=>by
    rw[<-Ab.o];exact(Zq3 (k:=k) (by rw[HN.o];exact hkl) (by rw[HU.o,HZ.o];exact h)).symm
   have TT:elemB l c (aheadOf t.words t.kids k) u (z:Int)=true->∀j,j<k+1->elemB l c (aheadOf t.words t.kids j) (t.words.getD j ⟨#[]⟩) (t.kids.getD j 0)=true:=fun h j hj=>by
    rcases Ym (Ys hj)with h1|h1
    ·exact Hall.o j h1
    ·subst h1;rw[HU.o,HZ.o];exact h
   have TF:=Yh (@TF true);have TT:=Yh TT;have x2:=X2.o;have x3:=X3.o;have x4:=X4.o
   cases hmk:markB u<;>rw[hmk]at A0<;>have MK:=Yh hmk<;>clear hmk
   ·cases hnb:nameB u<;>rw[hnb]at A5<;>have NB:=Yh hnb<;>clear hnb
    ·have Hn:=Yh (TF.o (Zf9 MK.o NB.o))
     go_wp2_with fail;refine A0.o.mono ?_;rintro e w' ⟨rfl,rfl⟩;go_wp2_with fail;refine A5.o.mono ?_;rintro e w' ⟨rfl,rfl⟩;go_wp2_with fail;go_ret;exact⟨Z0 Hn.o,BW.o⟩
    ·by_cases hX5:X=5
     case neg =>
      have Hn:=Yh (TF.o (Zh9 MK.o HX.o hX5));have hq:(X==5)=false:=by rw[Yc];exact hX5
      go_wp2_with fail;refine A0.o.mono ?_;rintro e w' ⟨rfl,rfl⟩;go_wp2_with fail;refine A5.o.mono ?_;rintro e w' ⟨rfl,rfl⟩;go_wp2_with fail;go_ret;exact⟨Z0 Hn.o,BW.o⟩
     subst hX5
     by_cases h0:k=0
     ·subst h0
      rw[Nat.add_zero]at cx ck;have Hx:=Yh (TT.o (Zm9 MK.o NB.o HX.o rfl));go_wp2_with fail;refine A0.o.mono ?_;rintro e w' ⟨rfl,rfl⟩;go_wp2_with fail;refine A5.o.mono ?_;rintro e w' ⟨rfl,rfl⟩;go_wp2_with fail;go_roundw
      case rel=>exact⟨0+1,by omega,by go_num,Hx,by first|rfl|trivial⟩
      case measure=>first|(simp[intOf];done)|(simp[intOf];omega)
     ·obtain⟨p,rfl⟩:∃p,k=p+1:=⟨k-1,by omega⟩
      have cy:=HC.o p (by rw[HN.o];omega);have cj:=A9.o p (by rw[HM.o];omega);have A3:=HT.o.ok.ks _ (Zd (show p<t.kids.length by rw[HM.o];omega));have A1:=Z00 (ws:=t.words) (ks:=t.kids) (p:=p);obtain⟨v,hv⟩:=Yn (t.words.getD p ⟨#[]⟩);obtain⟨j,hj⟩:=Yn (t.kids.getD p 0);rw[hv]at cy A1;rw[hj]at cj A1 A3;have A4:=Yh A1;clear hv hj A1;have A2:=Yh (ZC2 v wr);have A6:(0:Int)<(p:Int)+1:=by omega
      have A7:(p:Int)+1-1=(p:Int):=by omega
      cases hmv:markB v<;>rw[hmv]at A2<;>have MV:=Yh hmv<;>clear hmv
      ·cases hls:Op.bytesLess v.toList u.toList
       ·have LS:=Yh hls
        have Hn:=Yh (TF.o (by rw[A4.o,ZH1 MK.o NB.o HX.o rfl,MV.o,LS.o];rfl));go_wp2_with fail;refine A0.o.mono ?_;rintro e w' ⟨rfl,rfl⟩;go_wp2_with fail;refine A5.o.mono ?_;rintro e w' ⟨rfl,rfl⟩;go_wp2_with fail;refine A2.o.mono ?_;rintro e w' ⟨rfl,rfl⟩;go_wp2_with fail;go_ret;exact⟨Z0 Hn.o,BW.o⟩
       ·have LS:=Yh hls
        have Hx:=Yh (TT.o (by rw[A4.o,ZH1 MK.o NB.o HX.o rfl,MV.o,LS.o];rfl));go_wp2_with fail;refine A0.o.mono ?_;rintro e w' ⟨rfl,rfl⟩;go_wp2_with fail;refine A5.o.mono ?_;rintro e w' ⟨rfl,rfl⟩;go_wp2_with fail;refine A2.o.mono ?_;rintro e w' ⟨rfl,rfl⟩;go_wp2_with fail;go_roundw
        case rel=>exact⟨p+1+1,by omega,by go_num,Hx,by first|rfl|trivial⟩
        case measure=>first|(simp[intOf];done)|(simp[intOf];omega)
      ·have Hn:=Yh (TF.o (by rw[A4.o,ZH1 MK.o NB.o HX.o rfl,MV.o];rfl))
       go_wp2_with fail;refine A0.o.mono ?_;rintro e w' ⟨rfl,rfl⟩;go_wp2_with fail;refine A5.o.mono ?_;rintro e w' ⟨rfl,rfl⟩;go_wp2_with fail;refine A2.o.mono ?_;rintro e w' ⟨rfl,rfl⟩;go_wp2_with fail;go_ret;exact⟨Z0 Hn.o,BW.o⟩
   ·by_cases d1:c<2
    ·have Hn:=Yh (TF.o (Zm2 MK.o HX.o (by omega)))
     go_wp2_with fail;refine A0.o.mono ?_;rintro e w' ⟨rfl,rfl⟩;go_wp2_with fail;go_ret;exact⟨Z0 Hn.o,BW.o⟩
    by_cases d2:X=7
    ·have Hn:=Yh (TF.o (Zm2 MK.o HX.o (by omega)))
     go_wp2_with fail;refine A0.o.mono ?_;rintro e w' ⟨rfl,rfl⟩;go_wp2_with fail;go_ret;exact⟨Z0 Hn.o,BW.o⟩
    by_cases d3:X=9
    ·have Hn:=Yh (TF.o (Zm2 MK.o HX.o (by omega)))
     go_wp2_with fail;refine A0.o.mono ?_;rintro e w' ⟨rfl,rfl⟩;go_wp2_with fail;go_ret;exact⟨Z0 Hn.o,BW.o⟩
    have e2:(X==7)=false:=by rw[Yc];exact d2
    have e3:(X==9)=false:=by rw[Yc];exact d3
    by_cases d4:14<=z/\z<=19
    ·obtain⟨d5,d6⟩:=d4
     have Hn:=Yh (TF.o (Zm2 MK.o HX.o (by omega)));go_wp2_with fail;refine A0.o.mono ?_;rintro e w' ⟨rfl,rfl⟩;go_wp2_with fail;go_ret;exact⟨Z0 Hn.o,BW.o⟩
    have HD:=@Yh (¬(c<2\/X=7\/X=9\/(14<=(z:Int)/\(z:Int)<=19))) (by omega);have d5:¬(14<=(z:Int))\/¬((z:Int)<=19):=by omega
    clear d4
    rcases d5 with d5|d5
    ·by_cases h0:k=0
     ·subst h0
      rw[Nat.add_zero]at cx ck;have Hx:=Yh (TT.o (ZP3 MK.o HX.o HD.o));go_wp2_with fail;refine A0.o.mono ?_;rintro e w' ⟨rfl,rfl⟩;go_wp2_with fail;go_roundw
      case rel=>exact⟨0+1,by omega,by go_num,Hx,by first|rfl|trivial⟩
      case measure=>first|(simp[intOf];done)|(simp[intOf];omega)
     ·obtain⟨p,rfl⟩:∃p,k=p+1:=⟨k-1,by omega⟩
      have cy:=HC.o p (by rw[HN.o];omega);have cj:=A9.o p (by rw[HM.o];omega);have A3:=HT.o.ok.ks _ (Zd (show p<t.kids.length by rw[HM.o];omega));have A1:=Z00 (ws:=t.words) (ks:=t.kids) (p:=p);obtain⟨v,hv⟩:=Yn (t.words.getD p ⟨#[]⟩);obtain⟨j,hj⟩:=Yn (t.kids.getD p 0);rw[hv]at cy A1;rw[hj]at cj A1 A3;have A4:=Yh A1;clear hv hj A1;have A2:=Yh (ZC2 v wr);have A6:(0:Int)<(p:Int)+1:=by omega
      have A7:(p:Int)+1-1=(p:Int):=by omega
      cases hmv:markB v<;>rw[hmv]at A2<;>have MV:=Yh hmv<;>clear hmv
      ·have Hx:=Yh (TT.o (by rw[A4.o,Z90 MK.o HX.o HD.o,MV.o];rfl))
       go_wp2_with fail;refine A0.o.mono ?_;rintro e w' ⟨rfl,rfl⟩;go_wp2_with fail;refine A2.o.mono ?_;rintro e w' ⟨rfl,rfl⟩;go_wp2_with fail;go_roundw
       case rel=>exact⟨p+1+1,by omega,by go_num,Hx,by first|rfl|trivial⟩
       case measure=>first|(simp[intOf];done)|(simp[intOf];omega)
      ·by_cases hkj:(z:Int)<=j
       ·have Hn:=Yh (TF.o (by rw[A4.o,Z90 MK.o HX.o HD.o,MV.o,Yb hkj];rfl))
        go_wp2_with fail;refine A0.o.mono ?_;rintro e w' ⟨rfl,rfl⟩;go_wp2_with fail;refine A2.o.mono ?_;rintro e w' ⟨rfl,rfl⟩;go_wp2_with fail;go_ret;exact⟨Z0 Hn.o,BW.o⟩
       ·have Hx:=Yh (TT.o (by rw[A4.o,Z90 MK.o HX.o HD.o,MV.o,Ya hkj];rfl))
        go_wp2_with fail;refine A0.o.mono ?_;rintro e w' ⟨rfl,rfl⟩;go_wp2_with fail;refine A2.o.mono ?_;rintro e w' ⟨rfl,rfl⟩;go_wp2_with fail;go_roundw
        case rel=>exact⟨p+1+1,by omega,by go_num,Hx,by first|rfl|trivial⟩
        case measure=>first|(simp[intOf];done)|(simp[intOf];omega)
    ·have d6:14<=(z:Int):=by omega
     by_cases h0:k=0
     ·subst h0
      rw[Nat.add_zero]at cx ck;have Hx:=Yh (TT.o (ZP3 MK.o HX.o HD.o));go_wp2_with fail;refine A0.o.mono ?_;rintro e w' ⟨rfl,rfl⟩;go_wp2_with fail;go_roundw
      case rel=>exact⟨0+1,by omega,by go_num,Hx,by first|rfl|trivial⟩
      case measure=>first|(simp[intOf];done)|(simp[intOf];omega)
     ·obtain⟨p,rfl⟩:∃p,k=p+1:=⟨k-1,by omega⟩
      have cy:=HC.o p (by rw[HN.o];omega);have cj:=A9.o p (by rw[HM.o];omega);have A3:=HT.o.ok.ks _ (Zd (show p<t.kids.length by rw[HM.o];omega));have A1:=Z00 (ws:=t.words) (ks:=t.kids) (p:=p);obtain⟨v,hv⟩:=Yn (t.words.getD p ⟨#[]⟩);obtain⟨j,hj⟩:=Yn (t.kids.getD p 0);rw[hv]at cy A1;rw[hj]at cj A1 A3;have A4:=Yh A1;clear hv hj A1;have A2:=Yh (ZC2 v wr);have A6:(0:Int)<(p:Int)+1:=by omega
      have A7:(p:Int)+1-1=(p:Int):=by omega
      cases hmv:markB v<;>rw[hmv]at A2<;>have MV:=Yh hmv<;>clear hmv
      ·have Hx:=Yh (TT.o (by rw[A4.o,Z90 MK.o HX.o HD.o,MV.o];rfl))
       go_wp2_with fail;refine A0.o.mono ?_;rintro e w' ⟨rfl,rfl⟩;go_wp2_with fail;refine A2.o.mono ?_;rintro e w' ⟨rfl,rfl⟩;go_wp2_with fail;go_roundw
       case rel=>exact⟨p+1+1,by omega,by go_num,Hx,by first|rfl|trivial⟩
       case measure=>first|(simp[intOf];done)|(simp[intOf];omega)
      ·by_cases hkj:(z:Int)<=j
       ·have Hn:=Yh (TF.o (by rw[A4.o,Z90 MK.o HX.o HD.o,MV.o,Yb hkj];rfl))
        go_wp2_with fail;refine A0.o.mono ?_;rintro e w' ⟨rfl,rfl⟩;go_wp2_with fail;refine A2.o.mono ?_;rintro e w' ⟨rfl,rfl⟩;go_wp2_with fail;go_ret;exact⟨Z0 Hn.o,BW.o⟩
       ·have Hx:=Yh (TT.o (by rw[A4.o,Z90 MK.o HX.o HD.o,MV.o,Ya hkj];rfl))
        go_wp2_with fail;refine A0.o.mono ?_;rintro e w' ⟨rfl,rfl⟩;go_wp2_with fail;refine A2.o.mono ?_;rintro e w' ⟨rfl,rfl⟩;go_wp2_with fail;go_roundw
        case rel=>exact⟨p+1+1,by omega,by go_num,Hx,by first|rfl|trivial⟩
        case measure=>first|(simp[intOf];done)|(simp[intOf];omega)
  ·obtain rfl:k=n:=by omega
   have Hn:=Yh (show true=r by
    rw[<-Ab.o];exact(Zm5 (fun j hj=>Hall.o j (by rw[HN.o]at hj;exact hj))).symm)
   go_wp2_with fail;go_ret;exact⟨Z0 Hn.o,BW.o⟩
def MaxAt(w:World):Prop:=∃m,w.cell? ⟨1,0,none⟩=some (.int .i64 m)
theorem MaxAt.below{w w':World}(h:MaxAt w)(hb:Below w.heap.size w w'):MaxAt w':=by
 obtain⟨m,hm⟩:=h
 have A0:1<w.heap.size:=by
  rcases Nat.lt_or_ge 1 w.heap.size with h1|h1
  ·exact h1
  ·exfalso
   unfold World.cell? at hm;rw[Array.getElem?_eq_none (by simpa using h1)]at hm
   cases hm
 exact⟨m,by rw[hb.cell (p:=⟨1,0,none⟩) A0];exact hm⟩
theorem ZB4{a b:ByteArray}(h:a.data.toList=b.data.toList):a=b:=ByteArray.ext (Array.toList_inj.1 h)
theorem ext_list(s:ByteArray)(a b:Nat):(s.extract a b).data.toList=(s.data.toList.take b).drop a:=by
 simp[ByteArray.data_extract,List.extract,List.drop_take]
theorem ZV7(s:ByteArray):s.data.toList.take s.size=s.data.toList:=Y3 (by simp)
theorem ZJ9(s:ByteArray):(⟨(Lib.trimPrefix s.data.toList [43]).toArray⟩:ByteArray)=fieldT s:=by
 apply ZB4
 unfold fieldT Lib.trimPrefix Lib.hasPrefix
 by_cases h0:0<s.size
 ·have hl:s.data.toList=s.data[0]'(by simpa using h0)::s.data.toList.tail:=by
   cases he:s.data.toList with
   | nil =>
    have:s.data.toList.length=0:=by rw[he];rfl
    have h2:s.data.toList.length=s.size:=by simp
    omega
   | cons c r =>
    have:s.data[0]'(by simpa using h0)=c:=by
     have h3:s.data.toList[0]? = some c:=by rw[he];rfl
     rw[Array.getElem?_toList,Array.getElem?_eq_getElem (by simpa using h0)]at h3
     injection h3
    rw[this];rfl
  have hb:byteAt s 0=((s.data[0]'(by simpa using h0)).toNat:Int):=by unfold byteAt;rw[Array.getElem?_eq_getElem (by simpa using h0)];rfl
  have hp:[(43:UInt8)].isPrefixOf s.data.toList=decide (byteAt s 0=43):=by
   rw[hl,hb];simp only[List.isPrefixOf,Bool.and_true];rw[Bool.eq_iff_iff,YK,decide_eq_true_iff]
   constructor
   ·intro e;rw[<-e];rfl
   ·intro e;exact UInt8.toNat_inj.1 (by show(43:Nat)=_;omega)
  by_cases h43:byteAt s 0=43
  ·rw[hp,Yb h43,if_pos rfl,if_pos ⟨h0,h43⟩,ext_list,ZV7]
   simp
  ·rw[hp,Ya h43,if_neg (by decide),if_neg (fun g=>h43 g.2)]
 ·have he:s.data.toList=[]:=Yp (by
   have h2:s.data.toList.length=s.size:=by simp
   omega)
  rw[if_neg (show ¬(0<s.size/\byteAt s 0=43)from fun g=>h0 g.1),he]
  rfl
theorem ZM7(s:ByteArray)(w:World) :
  Calls Tryz.prog 142 #[.string s,.string ⟨#[43]⟩] w fun e w'=>e=.returned (.string (fieldT s))/\w=w':=by
 refine(Tryz.strings_TrimPrefix s ⟨#[43]⟩ w).mono ?_;rintro e w' ⟨he,rfl⟩;refine⟨?_,rfl⟩;rw[he,<-ZJ9]
theorem ZX6:∀l:List UInt8,(Lib.index l [46] = -1/\∀c∈l,c≠46)\/∃i:Nat,Lib.index l [46]=(i:Int)/\l[i]? = some 46/\∀j,j<i->l[j]?≠some 46
 | []=>.inl ⟨rfl,by simp⟩
 | b::l=>by
  have ih:=ZX6 l;have hstep:Lib.index (b::l) [46]=if[(46:UInt8)].isPrefixOf (b::l)then 0 else if Lib.index l [46]==-1 then -1 else Lib.index l [46]+1:=rfl
  have hp:[(46:UInt8)].isPrefixOf (b::l)=((46:UInt8)==b):=by simp[List.isPrefixOf]
  rw[hp]at hstep
  by_cases hb:b=46
  ·subst hb
   exact .inr ⟨0,by rw[hstep];rfl,rfl,fun j hj=>absurd hj (Yr _)⟩
  ·have A0:((46:UInt8)==b)=false:=by rw[Yc];exact fun e=>hb e.symm
   rw[A0,if_neg (by decide)]at hstep
   rcases ih with⟨h1,h2⟩|⟨i,h1,h2,h3⟩
   ·refine .inl ⟨by rw[hstep,h1];rfl,fun c hc=>?_⟩
    rcases List.mem_cons.1 hc with rfl|hc
    ·exact hb
    ·exact h2 c hc
   ·refine .inr ⟨i+1,?_,by simpa using h2,fun j hj=>?_⟩
    ·rw[hstep,h1,if_neg (by rw[YK];omega)]
     rfl
    ·cases j with
     | zero=>simpa using hb
     | succ j=>simpa using h3 j (by omega)
theorem Zh3{s:ByteArray}{j:Nat}(hj:j<s.size):(byteAt s j=46↔s.data.toList[j]? = some 46):=by
 rw[Zm hj,Array.getElem?_toList,Array.getElem?_eq_getElem (by simpa using hj)]
 constructor
 ·intro h
  have:s[j]=(46:UInt8):=UInt8.toNat_inj.1 (by show _=46;omega);exact congrArg some this
 ·intro h
  have:s[j]=(46:UInt8):=by injection h
  rw[this];rfl
theorem ZT8(s:ByteArray):(dotAt s=none/\(Lib.cut s.data.toList [46]).2.2=false) \/
  ∃i,i<s.size/\dotAt s=some i/\(⟨(Lib.cut s.data.toList [46]).1.toArray⟩:ByteArray)=s.extract 0 i/\(⟨(Lib.cut s.data.toList [46]).2.1.toArray⟩:ByteArray)=s.extract (i+1) s.size/\(Lib.cut s.data.toList [46]).2.2=true:=by
 have A0:s.data.toList.length=s.size:=by simp
 rcases ZX6 s.data.toList with⟨h1,h2⟩|⟨i,h1,h2,h3⟩
 ·refine .inl ⟨Zl4 (fun j hj e=>?_),?_⟩
  ·have:=(Zh3 hj).1 e
   exact h2 46 (List.mem_of_getElem? this) rfl
  ·unfold Lib.cut
   rw[if_neg (by rw[h1];decide)]
 ·have hi:i<s.size:=by
   have:=(YI.1 h2).1
   omega
  refine .inr ⟨i,hi,Zt4 hi (fun j hj e=>h3 j hj ((Zh3 (by omega)).1 e)) ((Zh3 hi).2 h2),?_,?_,?_⟩
  ·unfold Lib.cut
   rw[if_pos (by rw[h1];omega),h1]
   apply ZB4
   rw[ext_list];simp
  ·unfold Lib.cut
   rw[if_pos (by rw[h1];omega),h1]
   apply ZB4
   rw[ext_list,ZV7];simp
  ·unfold Lib.cut
   rw[if_pos (by rw[h1];omega)]
theorem ZZ7(s:ByteArray)(w:World)(hs:s.size<=1000)(hm:MaxAt w) :
  Calls Tryz.prog 131 #[.string s] w fun e w'=>e=.returned (.bool (namedB s))/\Below w.heap.size w w':=by
 obtain⟨m,hm⟩:=hm;have HC:=Tryz.strings_Cut s ⟨#[46]⟩ m w (by omega) hm;obtain⟨r,hr⟩:=Yn (namedB s);rw[hr];unfold namedB at hr;have A3:(⟨#[46]⟩:ByteArray).data.toList=[46]:=rfl;rw[A3]at HC
 rcases ZT8 s with⟨h1,h2⟩|⟨i,hi,h1,h2,h3,h4⟩
 ·rw[h1]at hr
  rw[h2]at HC;have Hr:=@Yh (false=r) (hr);have HC:=Yh HC;clear h1 h2 hr hm;go_enter Tryz.func131,Tryz.ntmps131;go_wp2_with fail;refine HC.o.mono ?_;rintro e w' ⟨rfl,n,rfl⟩;go_wp2_with fail;go_ret;exact⟨Z0 Hr.o,below_drewN (Y8 _ _) n⟩
 ·rw[h1]at hr
  rw[h2,h3,h4]at HC;have hr:(nameB (s.extract 0 i)&&nameB (s.extract (i+1) s.size))=r:=hr;have A1:(s.extract 0 i).size<=1000:=by rw[ByteArray.size_extract];omega
  have A2:(s.extract (i+1) s.size).size<=1000:=by rw[ByteArray.size_extract];omega
  obtain⟨a,ha⟩:=Yn (s.extract 0 i);obtain⟨b,hb⟩:=Yn (s.extract (i+1) s.size);rw[ha,hb]at hr HC;rw[ha]at A1;rw[hb]at A2;have HC:=Yh HC;have A0:=Yh (fun W=>Zp0 a W (by omega));have A4:=Yh (fun W=>Zp0 b W (by omega));clear h1 h2 h3 h4 ha hb A1 A2 hm
  cases hna:nameB a
  ·rw[hna]at hr A0
   have Hr:=@Yh (false=r) (hr);clear hr hna;go_enter Tryz.func131,Tryz.ntmps131;go_wp2_with fail;refine HC.o.mono ?_;rintro e w' ⟨rfl,n,rfl⟩;go_wp2_with fail;refine(A0.o _).mono ?_;rintro e w' ⟨rfl,rfl⟩;go_wp2_with fail;go_ret;exact⟨Z0 Hr.o,below_drewN (Y8 _ _) n⟩
  ·rw[hna]at hr A0
   have Hr:=@Yh (nameB b=r) (hr);clear hr hna;go_enter Tryz.func131,Tryz.ntmps131;go_wp2_with fail;refine HC.o.mono ?_;rintro e w' ⟨rfl,n,rfl⟩;go_wp2_with fail;refine(A0.o _).mono ?_;rintro e w' ⟨rfl,rfl⟩;go_wp2_with fail;refine(A4.o _).mono ?_;rintro e w' ⟨rfl,rfl⟩;go_wp2_with fail;go_ret;exact⟨Z0 Hr.o,below_drewN (Y8 _ _) n⟩
def termB(l:List Ty)(k:Int):Bool:=decide (¬(14<=k/\k<=19)/\kindAt l k≠7/\kindAt l k≠9)
theorem ZWb(l:List Ty)(ao:Option Addr)(ac:Nat)(z:Nat)(w:World)(hl:ARow w ao l)(hz:z<l.length)(ll:l.length<=1000) :
  Calls Tryz.prog 147 #[.slice ao l.length ac,.int .i64 z] w fun e w'=>e=.returned (.bool (termB l (z:Int)))/\w=w':=by
 obtain⟨r,hr⟩:=Yn (termB l (z:Int));rw[hr];unfold termB at hr;obtain⟨ab,aof,rfl,hab,hac⟩:=hl.cells (by omega);obtain⟨_,_,_,_,ca,-⟩:=hac z hz;rw[Ze hz]at hr;obtain⟨X,hX⟩:=Yn (l[z].kind);rw[hX]at ca hr;have HR:=Yh hr;obtain⟨L,hL⟩:=Yn (l.length);rw[hL]at hz ll ⊢;clear hr hX hac hab hl hL
 by_cases h1:14<=(z:Int)/\(z:Int)<=19
 ·obtain⟨h2,h3⟩:=h1
  have Hr:=@Yh (false=r) (by rw[<-HR.o,Ya (by omega)]);go_enter Tryz.func147,Tryz.ntmps147;go_wp2_with fail;go_ret;exact⟨Z0 Hr.o,rfl⟩
 have A0:¬(14<=(z:Int))\/¬((z:Int)<=19):=by omega
 by_cases h7:X=7
 ·have Hr:=@Yh (false=r) (by rw[<-HR.o,Ya (by omega)])
  subst h7;clear h1
  rcases A0 with h1|h1
  ·go_enter Tryz.func147,Tryz.ntmps147
   go_wp2_with fail;go_ret;exact⟨Z0 Hr.o,rfl⟩
  ·have h2:14<=(z:Int):=by omega
   go_enter Tryz.func147,Tryz.ntmps147;go_wp2_with fail;go_ret;exact⟨Z0 Hr.o,rfl⟩
 have e7:(X != 7)=true:=by rw[YJ];exact h7
 by_cases h9:X=9
 ·have Hr:=@Yh (false=r) (by rw[<-HR.o,Ya (by omega)])
  subst h9;clear h1
  rcases A0 with h1|h1
  ·go_enter Tryz.func147,Tryz.ntmps147
   go_wp2_with fail;go_ret;exact⟨Z0 Hr.o,rfl⟩
  ·have h2:14<=(z:Int):=by omega
   go_enter Tryz.func147,Tryz.ntmps147;go_wp2_with fail;go_ret;exact⟨Z0 Hr.o,rfl⟩
 have e9:(X != 9)=true:=by rw[YJ];exact h9
 have Hr:=@Yh (true=r) (by rw[<-HR.o,Yb (by omega)]);clear h1 h7 h9
 rcases A0 with h1|h1
 ·go_enter Tryz.func147,Tryz.ntmps147
  go_wp2_with fail;go_ret;exact⟨Z0 Hr.o,rfl⟩
 ·have h2:14<=(z:Int):=by omega
  go_enter Tryz.func147,Tryz.ntmps147;go_wp2_with fail;go_ret;exact⟨Z0 Hr.o,rfl⟩
theorem ZR9(s:ByteArray)(w:World) :
  Calls Tryz.prog 146 #[.string s] w fun e w'=>e=.returned (.bool (markB s))/\w=w':=by
 obtain⟨r,hr⟩:=Yn (markB s);rw[hr];unfold markB at hr
 cases h1:(s.toList==[61])
 ·have HR:=@Yh ((s.toList==[126])=r) (by rw[<-hr,h1];rfl)
  clear hr;go_enter Tryz.func146,Tryz.ntmps146;go_wp2_with fail;go_ret;exact⟨Z0 (by first|exact HR.o|(rw[<-HR.o];simp)),rfl⟩
 ·have HR:=@Yh (true=r) (by rw[<-hr,h1];rfl)
  clear hr;go_enter Tryz.func146,Tryz.ntmps146;go_wp2_with fail;go_ret;exact⟨Z0 HR.o,rfl⟩
theorem ZN5(s name:ByteArray)(b:Nat)(w:World)(hc:w.cell? ⟨b,0,none⟩=some (.string name)) :
  Calls Tryz.prog 144 #[.string s,.pointer (some ⟨b,0,none⟩)] w fun e w'=>e=.returned (.bool (decide (fieldT s=name)))/\∃n,w'=w.drewN n:=by
 have A1:=Yh (Zk (fieldT s) name);have A0:∀W,Calls Tryz.prog 142 #[.string s,.string ⟨#[43]⟩] W fun e w'=>e=.returned (.string (fieldT s))/\w'=W:=fun W=>(ZM7 s W).mono fun _ _ h=>⟨h.1,h.2.symm⟩
 have HT:=Yh A0;clear A0
 generalize fieldT s=u at *
 go_enter Tryz.func144,Tryz.ntmps144;go_wp2_with fail;go_quiet ((go_at_call 142;exact Calls.quiet_of_same (HT.o _)))
 rename_i nq
 go_wp2_with fail;go_ret;exact⟨Z0 A1.o,_,rfl⟩
def firstT(p:ByteArray->Bool)(ws:List ByteArray):Int:=match ws.findIdx? p with
 | none=>-1
 | some i=>(i:Int)
theorem ZR3{p:ByteArray->Bool}{ws:List ByteArray}{k:Nat}(hk:k<ws.length)(h:p (ws.getD k ⟨#[]⟩)=true)(hno:∀j,j<k->p (ws.getD j ⟨#[]⟩)=false):firstT p ws=(k:Int):=by
 unfold firstT
 have:ws.findIdx? p=some k:=by
  rw[List.findIdx?_eq_some_iff_getElem];refine⟨hk,by rw[Z3 hk]at h;exact h,fun j hj=>?_⟩;have:=hno j hj;rw[Z3 (by omega)]at this;rw[this];decide
 rw[this]
theorem ZV3{p:ByteArray->Bool}{ws:List ByteArray}(hno:∀j,j<ws.length->p (ws.getD j ⟨#[]⟩)=false):firstT p ws = -1:=by
 unfold firstT
 have:ws.findIdx? p=none:=by
  rw[List.findIdx?_eq_none_iff];intro x hx;obtain⟨j,hj,rfl⟩:=List.getElem_of_mem hx;have:=hno j hj
  rwa [Z3 hj]at this
 rw[this]
set_option maxRecDepth 100000 in
theorem Z57(ao:Option Addr)(cap:Nat)(ws:List ByteArray)(w:World)(hr:SRow w ao ws)(hl:ws.length<=1000) :
  Calls Tryz.prog 145 #[.slice ao ws.length cap,.func (.func 146) #[] #[]] w fun e w'=>e=.returned (.int .i64 (firstT (markB) ws))/\w=w':=by
 obtain⟨r,hrr⟩:=Yn (firstT (markB) ws);rw[hrr];have HR:=Yh hrr;obtain⟨n,hn⟩:=Yn (ws.length);have HN:=Yh hn;have HW:=Yh hr;rw[hn]at hl ⊢;clear hrr hn hr;go_enter Tryz.func145,Tryz.ntmps145;go_wp2_with fail;go_loopw [8] (fun i wr=>∃k:Nat,k<=n/\i=.int .i64 k/\Hi (∀j,j<k->(markB) (ws.getD j ⟨#[]⟩)=false)/\wr=w) (fun i _=>n-(intOf i).toNat)
 case atStart=>exact⟨0,Yl _,rfl,Yh (fun j hj=>absurd hj (Yr _)),rfl⟩
 case round =>
  obtain⟨k,hk,rfl,Hno,rfl⟩:=hrel
  by_cases hkn:k<n
  ·obtain⟨b,o,rfl,hb,hc⟩:=HW.o.cells (by rw[HN.o];omega)
   have cx:=hc k (by rw[HN.o];exact hkn);obtain⟨u,hu⟩:=Yn (ws.getD k ⟨#[]⟩);rw[hu]at cx;have HU:=Yh hu;clear hu hc hb;have HC:=Yh (ZR9 u wr)
   cases hp:(markB) u
   ·have Hx:=Yh (show ∀j,j<k+1->(markB) (ws.getD j ⟨#[]⟩)=false from fun j hj=>by
     rcases Ym (Ys hj)with h1|h1
     ·exact Hno.o j h1
     ·rw[h1,HU.o];exact hp)
    have A0:markB u=false:=hp;rw[A0]at HC;clear hp A0;go_wp2_with fail;refine HC.o.mono ?_;rintro e w' ⟨rfl,rfl⟩;go_wp2_with fail;go_roundw
    case rel=>exact⟨k+1,by omega,by go_num,Hx,by first|rfl|trivial⟩
    case measure=>simp[intOf];omega
   ·have Hx:=Yh (show(k:Int)=r from by
     rw[<-HR.o];exact(ZR3 (by rw[HN.o];exact hkn) (by rw[HU.o];exact hp) Hno.o).symm)
    have A0:markB u=true:=hp;rw[A0]at HC;clear hp A0;go_wp2_with fail;refine HC.o.mono ?_;rintro e w' ⟨rfl,rfl⟩;go_wp2_with fail;go_ret;exact⟨Zp Hx.o,rfl⟩
  ·obtain rfl:k=n:=by omega
   have Hx:=Yh (show(-1:Int)=r from by
    rw[<-HR.o];exact(ZV3 (fun j hj=>Hno.o j (by rw[HN.o]at hj;exact hj))).symm)
   go_wp2_with fail;go_ret;exact⟨Zp Hx.o,rfl⟩
set_option maxRecDepth 100000 in
theorem ZI5(ao:Option Addr)(cap:Nat)(ws:List ByteArray)(name:ByteArray)(nb:Nat)(w:World)(hc:w.cell? ⟨nb,0,none⟩=some (.string name))(hnb:nb<w.heap.size)(hr:SRow w ao ws)(hl:ws.length<=1000) :
  Calls Tryz.prog 145 #[.slice ao ws.length cap,.func (.func 144) #[] #[.pointer (some ⟨nb,0,none⟩)]] w fun e w'=>e=.returned (.int .i64 (firstT (fun x=>decide (fieldT x=name)) ws))/\Below w.heap.size w w':=by
 obtain⟨r,hrr⟩:∃r,firstT (fun x=>decide (fieldT x=name)) ws=r:=⟨_,rfl⟩
 rw[hrr];have HR:=Yh hrr;obtain⟨n,hn⟩:=Yn (ws.length);have HN:=Yh hn;have HW:=Yh hr;have A1:=Yh (YH hc hnb);rw[hn]at hl ⊢;clear hrr hn hr hc hnb;go_enter Tryz.func145,Tryz.ntmps145;go_wp2_with fail;go_loopw [8] (fun i wr=>∃k:Nat,k<=n/\i=.int .i64 k/\Hi (∀j,j<k->(fun x=>decide (fieldT x=name)) (ws.getD j ⟨#[]⟩)=false)/\Hi (Below w.heap.size w wr)) (fun i _=>n-(intOf i).toNat)
 case atStart=>exact⟨0,Yl _,rfl,Yh (fun j hj=>absurd hj (Yr _)),Yh (Y8 _ _)⟩
 case round =>
  obtain⟨k,hk,rfl,Hno,HB⟩:=hrel
  by_cases hkn:k<n
  ·obtain⟨b,o,rfl,hb,hc⟩:=HW.o.cells (by rw[HN.o];omega)
   have cx:=hc k (by rw[HN.o];exact hkn);obtain⟨u,hu⟩:=Yn (ws.getD k ⟨#[]⟩);rw[hu]at cx;have HU:=Yh hu;have A2:=hb;clear hu hc hb;have cn:wr.cell? ⟨nb,0,none⟩=some (.string name):=by rw[HB.o.cell (p:=⟨nb,0,none⟩) A1.o.2];exact A1.o.1
   have HC:=Yh (ZN5 u name nb wr cn);have cx:wr.cell? ⟨b,o+k,none⟩=some (.string u):=by rw[HB.o.cell (p:=⟨b,o+k,none⟩) A2];exact cx
   clear cn
   cases hp:(fun x=>decide (fieldT x=name)) u
   ·have Hx:=Yh (show ∀j,j<k+1->(fun x=>decide (fieldT x=name)) (ws.getD j ⟨#[]⟩)=false from fun j hj=>by
     rcases Ym (Ys hj)with h1|h1
     ·exact Hno.o j h1
     ·rw[h1,HU.o];exact hp)
    have A0:decide (fieldT u=name)=false:=hp;rw[A0]at HC;clear hp A0;go_wp2_with fail;refine HC.o.mono ?_;rintro e w' ⟨rfl,nn,rfl⟩;have B2:=Yh (below_drewN HB.o nn);go_wp2_with fail;go_roundw
    case rel=>exact⟨k+1,by omega,by go_num,Hx,B2⟩
    case measure=>simp[intOf];omega
   ·have Hx:=Yh (show(k:Int)=r from by
     rw[<-HR.o];exact(ZR3 (by rw[HN.o];exact hkn) (by rw[HU.o];exact hp) Hno.o).symm)
    have A0:decide (fieldT u=name)=true:=hp;rw[A0]at HC;clear hp A0;go_wp2_with fail;refine HC.o.mono ?_;rintro e w' ⟨rfl,nn,rfl⟩;have B2:=Yh (below_drewN HB.o nn);go_wp2_with fail;go_ret;exact⟨Zp Hx.o,B2.o⟩
  ·obtain rfl:k=n:=by omega
   have Hx:=Yh (show(-1:Int)=r from by
    rw[<-HR.o];exact(ZV3 (fun j hj=>Hno.o j (by rw[HN.o]at hj;exact hj))).symm)
   go_wp2_with fail;go_ret;exact⟨Zp Hx.o,HB.o⟩
theorem Zxb{p:ByteArray->Bool}{ws:List ByteArray}:ws.any p=decide (0<=firstT p ws):=by
 unfold firstT
 cases h:ws.findIdx? p with
 | none =>
  rw[List.findIdx?_eq_none_iff]at h
  have:ws.any p=false:=by
   rw[Bool.eq_false_iff];intro g;rw[List.any_eq_true]at g;obtain⟨x,hx,g⟩:=g;rw[h x hx]at g
   cases g
  rw[this];rfl
 | some i =>
  rw[List.findIdx?_eq_some_iff_getElem]at h;obtain⟨hi,hp,-⟩:=h
  have:ws.any p=true:=by
   rw[List.any_eq_true];exact⟨_,Yq hi,hp⟩
  rw[this]
  symm
  exact Yb (by show(0:Int)<=(i:Int);omega)
theorem Zj7(ao:Option Addr)(cap:Nat)(ws:List ByteArray)(name:ByteArray)(nb:Nat)(w:World)(hc:w.cell? ⟨nb,0,none⟩=some (.string name))(hnb:nb<w.heap.size)(hr:SRow w ao ws)(hl:ws.length<=1000) :
  Calls Tryz.prog 143 #[.slice ao ws.length cap,.func (.func 144) #[] #[.pointer (some ⟨nb,0,none⟩)]] w fun e w'=>e=.returned (.bool (ws.any (fun x=>decide (fieldT x=name))))/\Below w.heap.size w w':=by
 have HI:=Yh (ZI5 ao cap ws name nb w hc hnb hr hl);rw[Zxb];obtain⟨z,hz⟩:∃z,firstT (fun x=>decide (fieldT x=name)) ws=z:=⟨_,rfl⟩
 rw[hz]at HI ⊢
 generalize ws.length=n at *
 clear hz hc hnb hr hl
 by_cases h0:0<=z
 ·rw[Yb h0]
  go_enter Tryz.func143,Tryz.ntmps143;go_wp2_with fail;refine HI.o.mono ?_;rintro e w' ⟨rfl,b⟩;have B:=Yh b;clear b;go_wp2_with fail;go_ret;exact⟨by first|rfl|(exact Z0 (Yb h0))|simp[h0],B.o⟩
 ·have h1:z<0:=by omega
  rw[Ya h0];go_enter Tryz.func143,Tryz.ntmps143;go_wp2_with fail;refine HI.o.mono ?_;rintro e w' ⟨rfl,b⟩;have B:=Yh b;clear b;go_wp2_with fail;go_ret;exact⟨by first|rfl|(exact Z0 (Ya h0))|simp[h0],B.o⟩
set_option maxRecDepth 100000 in
theorem Za7(t:Ty)(wo ko:Option Addr)(wc kc:Nat)(w:World)(ht:TyC w wo ko t)(hwc:t.words.length<=wc) :
  Calls Tryz.prog 129 #[tyV t wo wc ko kc] w fun e w'=>e=.returned (.bool (decide (t.name.size=0/\t.n=0/\t.kids.length<=16/\t.words.length=t.kids.length)&&fieldsB t.words))/\Below w.heap.size w w':=by
 obtain⟨r,hr⟩:∃r,(decide (t.name.size=0/\t.n=0/\t.kids.length<=16/\t.words.length=t.kids.length)&&fieldsB t.words)=r:=⟨_,rfl⟩
 rw[hr];have HR:=Yh hr;clear hr;unfold tyV;obtain⟨n,hn⟩:=Yn (t.words.length);obtain⟨m,hm⟩:=Yn (t.kids.length);obtain⟨c,hcn⟩:=Yn (t.n);obtain⟨s,hs⟩:=Yn (t.name);have HN:=Yh hn;have l1:=ht.ok.wl;have l2:=ht.ok.kl;rw[hn]at l1 hwc ⊢;rw[hm]at l2 ⊢;rw[hcn,hs];rw[hn,hm,hcn,hs]at HR;have HT:=Yh ht;clear hn hm ht hcn hs
 by_cases c0:s.size=0
 case neg =>
  have Hn:=@Yh (false=r) (by rw[<-HR.o,Ya (fun g=>c0 g.1)];rfl);have he:=Zf2 (s:=s) (by omega);have Ac:=Zz0 (s:=s) (by omega);clear c0;go_enter Tryz.func129,Tryz.ntmps129;go_wp2_with fail;go_ret;exact⟨Z0 Hn.o,(Y8 _ _).alloc (Yk _) _⟩
 have he:s.toList=[]:=by rw[ByteArray.toList_eq,Zn1 c0]
 by_cases c1:c=0
 case neg =>
  have Hn:=@Yh (false=r) (by rw[<-HR.o,Ya (fun g=>c1 g.2.1)];rfl);have hq:(c != 0)=true:=by rw[YJ];exact c1
  go_enter Tryz.func129,Tryz.ntmps129;go_wp2_with fail;go_ret;exact⟨Z0 Hn.o,(Y8 _ _).alloc (Yk _) _⟩
 subst c1
 by_cases c2:m<=16
 case neg =>
  have Hn:=@Yh (false=r) (by rw[<-HR.o,Ya (fun g=>c2 g.2.2.1)];rfl);have hq:decide (16<m)=true:=Yb (by omega);go_enter Tryz.func129,Tryz.ntmps129;go_wp2_with fail;go_ret;exact⟨Z0 Hn.o,(Y8 _ _).alloc (Yk _) _⟩
 by_cases c3:n=m
 case neg =>
  have Hn:=@Yh (false=r) (by rw[<-HR.o,Ya (fun g=>c3 g.2.2.2)];rfl);have hq:((n:Int) != (m:Int))=true:=by rw[YJ];omega
  have Ad:((n:Int)==(m:Int))=false:=by rw[Yc];omega
  go_enter Tryz.func129,Tryz.ntmps129;go_wp2_with fail;go_ret;exact⟨Z0 Hn.o,(Y8 _ _).alloc (Yk _) _⟩
 subst c3;have A8:=@Yh (fieldsB t.words=r) (by rw[<-HR.o,Yb ⟨c0,rfl,c2,rfl⟩,Bool.true_and]);obtain⟨w1,h1,k1,q1,z1⟩:=YA w #[.int .i64 t.kind,.string s,.int .i64 0,.slice wo n wc,.slice ko n kc] 50;have BW:=Yh q1;have K1:=Yh k1;obtain⟨x0,x1,x2,x3,x4⟩:=cell5 k1;clear k1 q1 z1;go_enter Tryz.func129,Tryz.ntmps129;go_wp2_with fail;clear h1 x0 x1 x2 x3 x4;go_loopw [32] (fun i wr=>∃k:Nat,k<=n/\i=.int .i64 k/\Hi (∀j,j<k->fieldB t.words j (t.words.getD j ⟨#[]⟩)=true)/\Hi (Below w1.heap.size w1 wr)) (fun i _=>n-(intOf i).toNat)
 case atStart=>exact⟨0,Yl _,rfl,Yh (fun j hj=>absurd hj (Yr _)),Yh (Y8 _ _)⟩
 case round =>
  obtain⟨k,hk,rfl,Hall,HB⟩:=hrel
  by_cases hkl:k<n
  ·have BB:=YT BW HB.o
   have A4:=HT.o.words.below BB.o;obtain⟨b,o,rfl,hb,hc⟩:=A4.cells (by rw[HN.o];omega);have cx:=hc k (by rw[HN.o];exact hkl);have A9:=HT.o.ok.ws _ (ZG0 (show k<t.words.length by rw[HN.o];exact hkl));obtain⟨u,hu⟩:=Yn (t.words.getD k ⟨#[]⟩);have HU:=Yh hu;rw[hu]at cx A9;have A0:=Yh (ZM7 u wr);have Aa:=Zg5 (s:=u);obtain⟨f,hf⟩:=Yn (fieldT u);rw[hf]at A0 Aa;have HF:=Yh hf;obtain⟨wn,hwn,k2,q2,z2⟩:=YA wr #[.string f] 9;have BN:=YT HB q2;have cf:wn.cell? ⟨wr.heap.size,0,none⟩=some (.string f):=k2.cell 0;have A1:=Yh (fun W=>Zp0 f W (by omega));obtain⟨-,-,-,x3,-⟩:=cell5 (K1.o.below BN.o)
   have TF:fieldB t.words k u=false->false=r:=fun h=>by
    rw[<-A8.o];exact(ZM2 (k:=k) (by rw[HN.o];exact hkl) (by rw[HU.o];exact h)).symm
   have TT:fieldB t.words k u=true->∀j,j<k+1->fieldB t.words j (t.words.getD j ⟨#[]⟩)=true:=fun h j hj=>by
    rcases Ym (Ys hj)with h1|h1
    ·exact Hall.o j h1
    ·subst h1;rw[HU.o];exact h
   have TF:=Yh TF;have TT:=Yh TT;have BE:=YT BW BN.o
   have A5:=Yh (show Calls Tryz.prog 143 #[.slice (some ⟨b,o,none⟩) k wc,.func (.func 144) #[] #[.pointer (some ⟨wr.heap.size,0,none⟩)]] wn fun e w'=>e=.returned (.bool ((t.words.take k).any (fun x=>decide (fieldT x=f))))/\Below wn.heap.size wn w' from by
    have Ab:(t.words.take k).length=k:=by rw[Y5,HN.o];omega
    have A6:SRow wn (some ⟨b,o,none⟩) (t.words.take k):=by
     rcases(HT.o.words.below BE.o)with h|⟨b',o',e1,e2,e3⟩
     ·exact .inl (by rw[h];simp)
     ·refine .inr ⟨b',o',e1,e2,fun i hi=>?_⟩
      rw[Y5]at hi;rw[e3 i (by omega),Z3 (show i<t.words.length by omega),Z3 (by rw[Y5];exact hi),List.getElem_take]
    have:=Zj7 (some ⟨b,o,none⟩) wc (t.words.take k) f wr.heap.size wn cf k2.lt A6 (by omega)
    rwa [Ab]at this)
   obtain⟨ans,hans⟩:∃ans,(t.words.take k).any (fun x=>decide (fieldT x=f))=ans:=⟨_,rfl⟩
   rw[hans]at A5;have A2:=Yh hans;obtain⟨-,-,-,y3,-⟩:=cell5 (K1.o.below HB.o);clear hu hc hb k2 q2 z2 hf hans
   cases hnb:nameB f<;>rw[hnb]at A1<;>have NB:=Yh hnb<;>clear hnb
   ·have Hn:=Yh (TF.o (Z74 (by rw[HF.o];exact NB.o)))
    clear x3;go_wp2_with fail;refine A0.o.mono ?_;rintro e w' ⟨rfl,rfl⟩;go_wp2_with fail;refine(A1.o _).mono ?_;rintro e w' ⟨rfl,rfl⟩;go_wp2_with fail;go_ret;exact⟨Z0 Hn.o,BE.o⟩
   ·cases hbl:(f.toList==[95])
    ·have A7:(f.toList != [95])=true:=by rw[bne,hbl];rfl
     have A3:=@Yh (blankB f=false) (hbl)
     cases ans
     ·have Hx:=Yh (TT.o (Zz2 (by rw[HF.o];exact NB.o) (by rw[HN.o];omega) (fun j hj=>by
       unfold clashB;rw[HF.o,A3.o];have h1:=A2.o
       have h2:decide (fieldT (t.words.getD j ⟨#[]⟩)=f)=false:=by
        rw[Bool.eq_false_iff];intro h3
        have h4:(t.words.take k).any (fun x=>decide (fieldT x=f))=true:=by
         rw[List.any_eq_true];refine⟨t.words.getD j ⟨#[]⟩,?_,h3⟩;rw[Z3 (by rw[HN.o];omega),List.mem_take_iff_getElem];exact⟨j,by rw[HN.o];omega,rfl⟩
        rw[h1]at h4
        cases h4
       rw[Zk,h2]
       rfl)))
      go_wp2_with fail;refine A0.o.mono ?_;rintro e w' ⟨rfl,rfl⟩;go_wp2_with fail;refine(A1.o _).mono ?_;rintro e w' ⟨rfl,rfl⟩;go_wp2_with fail;refine A5.o.mono ?_;rintro e w' ⟨rfl,b3⟩;have B3:=YT BN b3;clear b3;go_wp2_with fail;go_roundw
      case rel=>exact⟨k+1,by omega,by go_num,Hx,B3⟩
      case measure=>simp[intOf];omega
     ·have Hn:=Yh (TF.o (by
       have h1:=A2.o;rw[List.any_eq_true]at h1;obtain⟨x,hx,h2⟩:=h1;rw[List.mem_take_iff_getElem]at hx;obtain⟨j,hj,rfl⟩:=hx;refine Zu3 (j:=j) (by omega) (by rw[HN.o];omega) ?_;unfold clashB;rw[Z3 (by omega),HF.o,A3.o,Zk,h2]
       rfl))
      go_wp2_with fail;refine A0.o.mono ?_;rintro e w' ⟨rfl,rfl⟩;go_wp2_with fail;refine(A1.o _).mono ?_;rintro e w' ⟨rfl,rfl⟩;go_wp2_with fail;refine A5.o.mono ?_;rintro e w' ⟨rfl,b3⟩;have B3:=YT BE b3;clear b3;go_wp2_with fail;go_ret;exact⟨Z0 Hn.o,B3.o⟩
    ·have A7:(f.toList != [95])=false:=by rw[bne,hbl];rfl
     have A3:=@Yh (blankB f=true) (hbl)
     have Hx:=Yh (TT.o (Zz2 (by rw[HF.o];exact NB.o) (by rw[HN.o];omega) (fun j hj=>by
       unfold clashB;rw[HF.o,A3.o];simp)))
     go_wp2_with fail;refine A0.o.mono ?_;rintro e w' ⟨rfl,rfl⟩;go_wp2_with fail;refine(A1.o _).mono ?_;rintro e w' ⟨rfl,rfl⟩;go_wp2_with fail;go_roundw
     case rel=>exact⟨k+1,by omega,by go_num,Hx,BN⟩
     case measure=>simp[intOf];omega
  ·obtain rfl:k=n:=by omega
   have Hn:=Yh (show true=r by
    rw[<-A8.o];exact(Z64 (fun j hj=>Hall.o j (by rw[HN.o]at hj;exact hj))).symm)
   have BE:=YT BW HB.o;go_wp2_with fail;go_ret;exact⟨Z0 Hn.o,BE.o⟩
end Go.Proofs.YtdcajkagakikiaaGreatDoor
