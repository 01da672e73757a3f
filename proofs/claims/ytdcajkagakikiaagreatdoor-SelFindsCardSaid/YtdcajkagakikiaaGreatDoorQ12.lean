import Derived.Test.YtdcajkagakikiaaGreatDoorQ10
import Derived.Test.YtdcajkagakikiaaGreatDoorQ11
namespace Go.Proofs.YtdcajkagakikiaaGreatDoor
set_option maxHeartbeats 64000000
set_option linter.unusedSimpArgs false
set_option linter.unusedVariables false
open Go.RowKit
theorem cell2{w:World}{b:Nat}{a0 a1:Value}{T:TypeId}(h:BlockAt w b #[a0,a1] T):w.cell? ⟨b,0,none⟩=some a0/\w.cell? ⟨b,1,none⟩=some a1:=⟨h.cell 0,h.cell 1⟩
theorem cell4{w:World}{b:Nat}{a0 a1 a2 a3:Value}{T:TypeId}(h:BlockAt w b #[a0,a1,a2,a3] T):w.cell? ⟨b,0,none⟩=some a0/\w.cell? ⟨b,1,none⟩=some a1/\w.cell? ⟨b,2,none⟩=some a2/\w.cell? ⟨b,3,none⟩=some a3:=⟨h.cell 0,h.cell 1,h.cell 2,h.cell 3⟩
def noU:Nm:=⟨⟨#[]⟩,[],0,[]⟩
theorem ZA8(s:ByteArray)(w:World)(hs:s.size<=1000) :
  Calls Tryz.prog 54 #[.string s] w fun e w'=>e=.returned (.bool (namedB s))/\w=w':=by
 go_enter Tryz.func54,Tryz.ntmps54;go_wp2_with fail;go_loopw [3] (fun i wr=>∃k:Nat,k<=s.size/\i=.int .i64 k/\Hi (NoDot s k)/\wr=w) (fun i _=>s.size-(intOf i).toNat)
 case atStart=>exact⟨0,Yl _,rfl,Yh (fun j hj=>absurd hj (Yr _)),rfl⟩
 case round =>
  obtain⟨k,hk,rfl,Hno,rfl⟩:=hrel
  by_cases hkl:k<s.size
  ·have hb:=Zm hkl
   by_cases hq:byteAt s k=46
   ·have h2:(s[k].toNat:Int)=46:=by rw[<-hb];exact hq
    have H1:=Yh (ZO (s.extract 0 k) wr (by rw[ByteArray.size_extract];omega));have H2:=Yh (ZO (s.extract (k+1) s.size) wr (by rw[ByteArray.size_extract];omega));have HR:=@Yh ((nameB (s.extract 0 k)&&nameB (s.extract (k+1) s.size))=namedB s) (by unfold namedB;rw[Zt4 hkl Hno.o hq]);clear hq hb
    cases h3:nameB (s.extract 0 k)<;>rw[h3]at H1 HR<;>clear h3
    ·rw[Bool.false_and]at HR
     go_wp2_with fail;refine H1.o.mono ?_;rintro e w' ⟨rfl,rfl⟩;go_wp2_with fail;go_ret;exact⟨Z0 HR.o,rfl⟩
    ·rw[Bool.true_and]at HR
     go_wp2_with fail;refine H1.o.mono ?_;rintro e w' ⟨rfl,rfl⟩;go_wp2_with fail;refine H2.o.mono ?_;rintro e w' ⟨rfl,rfl⟩;go_wp2_with fail;go_ret;exact⟨Z0 HR.o,rfl⟩
   ·have h2:¬(s[k].toNat:Int)=46:=by rw[<-hb];exact hq
    have A0:=Yh (show NoDot s (k+1)from fun j hj=>by
     rcases Ym (Ys hj)with h1|h1
     ·exact Hno.o j h1
     ·rw[h1];exact hq)
    clear hq hb;go_wp2_with fail;go_roundw
    case rel=>exact⟨k+1,by omega,by go_num,A0,by first|rfl|trivial⟩
    case measure=>simp[intOf];omega
  ·obtain rfl:k=s.size:=by omega
   have HR:=@Yh (false=namedB s) (by unfold namedB;rw[Zl4 Hno.o]);go_wp2_with fail;go_ret;exact⟨Z0 HR.o,rfl⟩
theorem Z6d{ns:List Nm}{s:ByteArray}{k:Nat}(hk:k<ns.length)(h:ns[k].name=s)(hno:∀j (hj:j<ns.length),j<k->ns[j].name≠s):atU ns s=(k:Int):=by
 unfold atU
 have:ns.findIdx? (fun n=>decide (n.name=s))=some k:=by
  rw[List.findIdx?_eq_some_iff_getElem];exact⟨hk,Yb h,fun j hj=>by simpa using hno j (by omega) hj⟩
 rw[this]
theorem Zoc{ns:List Nm}{s:ByteArray}(hno:∀j (hj:j<ns.length),ns[j].name≠s):atU ns s = -1:=by
 unfold atU
 have:ns.findIdx? (fun n=>decide (n.name=s))=none:=by
  rw[List.findIdx?_eq_none_iff];intro x hx;obtain⟨j,hj,rfl⟩:=List.getElem_of_mem hx
  simpa using hno j hj
 rw[this]
set_option maxRecDepth 100000 in
theorem Zv3(u:Un)(ao no:Option Addr)(ac nc:Nat)(s:ByteArray)(w:World)(hU:UnC w ao no ac nc u) :
  Calls Tryz.prog 57 #[unV u ao ac no nc,.string s] w fun e w'=>e=.returned (.int .i64 (atU u.named s))/\Below w.heap.size w w':=by
 unfold unV;obtain⟨R,hR⟩:=Yn (atU u.named s);rw[hR];have HR:=Yh hR;have HU:=Yh hU;have A2:=hU.nl;obtain⟨n,hn⟩:=Yn (u.named.length);have HN:=Yh hn;rw[hn]at A2 ⊢;obtain⟨w1,h1,k1,q1,z1⟩:=YA w #[.slice ao u.types.length ac,.slice no n nc] 25;have B1:=Yh q1;obtain⟨c0,c1⟩:=cell2 k1;clear hU hn k1 q1 z1 hR;go_enter Tryz.func57,Tryz.ntmps57;go_wp2_with fail;clear c0 c1 h1;go_loopw [10] (fun i wr=>∃k:Nat,k<=n/\i=.int .i64 k/\Hi (∀j (hj:j<u.named.length),j<k->u.named[j].name≠s)/\Hi (Below w.heap.size w wr)) (fun i _=>n-(intOf i).toNat)
 case atStart=>exact⟨0,Yl _,rfl,Yh (fun j hj h=>absurd h (Yr _)),B1⟩
 case round =>
  obtain⟨k,hk,rfl,Hno,HB⟩:=hrel
  by_cases hkn:k<n
  ·have A3:(k:Int)<(n:Int):=by omega
   have A1:k<u.named.length:=by rw[HN.o];exact hkn
   obtain⟨b,o,rfl,hb,hc⟩:=HU.o.named.cells (by omega);obtain⟨bo,bc,mo,mc,a0',a1',a2',a3',-,-,-⟩:=hc k A1;have a0:=(HB.o.cell hb).trans a0';have a1:=(HB.o.cell hb).trans a1';have a2:=(HB.o.cell hb).trans a2';have a3:=(HB.o.cell hb).trans a3';obtain⟨x,hx⟩:=Yn (u.named[k]);rw[hx]at a0 a1 a2 a3;have HX:=Yh hx;obtain⟨wn,hwn,kx,qx,zx⟩:=YA wr #[.string x.name,.slice bo x.bounds.length bc,.int .i64 x.under,.slice mo x.methods.length mc] 53;have BN:=YT HB qx;obtain⟨d0,d1,d2,d3⟩:=cell4 kx;clear hc a0' a1' a2' a3' hx kx qx zx hb
   by_cases he:x.name=s
   ·have HV:=@Yh ((k:Int)=R) (by rw[<-HR.o];exact(Z6d A1 (by rw[HX.o];exact he) Hno.o).symm)
    have hq:(x.name.toList==s.toList)=true:=(Zk x.name s).trans (Yb he);clear he;go_wp2_with fail;go_ret;exact⟨Zp HV.o,BN.o⟩
   ·have A0:=Yh (show ∀j (hj:j<u.named.length),j<k+1->u.named[j].name≠s from fun j hj h=>by
     rcases Ym (Ys h)with g|g
     ·exact Hno.o j hj g
     ·subst g;rw[HX.o];exact he)
    have hq:(x.name.toList==s.toList)=false:=(Zk x.name s).trans (Ya he);clear he;go_wp2_with fail;go_roundw
    case rel=>exact⟨k+1,by omega,by go_num,A0,BN⟩
    case measure=>first|(simp[intOf];done)|(simp[intOf];omega)
  ·obtain rfl:k=n:=by omega
   have HV:=@Yh ((-1:Int)=R) (by rw[<-HR.o];exact(Zoc (fun j hj=>Hno.o j hj (by rw[HN.o]at hj;exact hj))).symm);go_wp2_with fail;go_ret;exact⟨Zp HV.o,HB.o⟩
set_option maxRecDepth 100000 in
theorem Zib(u:Un)(ao no:Option Addr)(ac nc:Nat)(i k:Int)(w:World)(hU:UnC w ao no ac nc u) :
  Calls Tryz.prog 56 #[unV u ao ac no nc,.int .i64 i,.int .i64 k] w fun e w'=>e=.returned (.bool (isB u.types i k))/\Below w.heap.size w w':=by
 unfold unV;obtain⟨R,hR⟩:=Yn (isB u.types i k);rw[hR];have HR:=Yh hR;have HU:=Yh hU;have A1:=hU.tl;obtain⟨n,hn⟩:=Yn (u.types.length);have HN:=Yh hn;rw[hn]at A1 ⊢;obtain⟨w1,h1,k1,q1,z1⟩:=YA w #[.slice ao n ac,.slice no u.named.length nc] 25;have B1:=Yh q1;obtain⟨c0,c1⟩:=cell2 k1;clear hU hn k1 q1 z1 hR
 by_cases h0:0<=i
 ·have A2:decide (0<=i)=true:=Yb h0
  obtain⟨z,rfl⟩:∃z:Nat,i=(z:Int):=⟨i.toNat,by omega⟩
  by_cases hz:z<n
  ·have A0:z<u.types.length:=by rw[HN.o];exact hz
   have hI:(z:Int)<(n:Int):=by omega
   have A3:decide ((z:Int)<(n:Int))=true:=Yb hI;obtain⟨b,o,rfl,hb,hc⟩:=HU.o.types.cells (by omega);obtain⟨xw,xwc,xk,xkc,a0',-,-,-,-,-⟩:=hc z A0;have a0:=(B1.o.cell hb).trans a0';obtain⟨x,hx⟩:=Yn (u.types[z].kind);rw[hx]at a0
   have HV:=Yh (show decide (x=k)=R by
    rw[<-HR.o];unfold isB inL;rw[Yb (show 0<=(z:Int)/\(z:Int)<(u.types.length:Int)by omega),Bool.true_and];unfold kindAt;rw[Yw,Yv A0];simp[hx])
   have hq:(x==k)=decide (x=k):=by rw[Bool.eq_iff_iff,YK,decide_eq_true_eq]
   clear hc a0' hx hb;go_enter Tryz.func56,Tryz.ntmps56;go_wp2_with fail;go_ret;exact⟨Z0 HV.o,B1.o⟩
  ·have A3:decide ((z:Int)<(n:Int))=false:=Ya (by omega)
   have HV:=Yh (show false=R by
    rw[<-HR.o];unfold isB inL;rw[Ya (by rw[HN.o];omega),Bool.false_and])
   go_enter Tryz.func56,Tryz.ntmps56;go_wp2_with fail;go_ret;exact⟨Z0 HV.o,B1.o⟩
 ·have A2:decide (0<=i)=false:=Ya h0
  have HV:=Yh (show false=R by
   rw[<-HR.o];unfold isB inL;rw[Ya (by omega),Bool.false_and])
  go_enter Tryz.func56,Tryz.ntmps56;go_wp2_with fail;go_ret;exact⟨Z0 HV.o,B1.o⟩
set_option maxRecDepth 100000 in
theorem Z27(u:Un)(ao no:Option Addr)(ac nc:Nat)(i:Int)(most:Nat)(w:World)(hU:UnC w ao no ac nc u)(hr:rightT u.types=true) :
  Calls Tryz.prog 55 #[unV u ao ac no nc,.int .i64 i,.int .i64 most] w fun e w'=>e=.returned (.bool (fitB u.types i most))/\Below w.heap.size w w':=by
 unfold unV;obtain⟨R,hR⟩:=Yn (fitB u.types i most);rw[hR];have HR:=Yh hR;have HU:=Yh hU;have A2:=hU.tl;have A3:=Yh hr;obtain⟨n,hn⟩:=Yn (u.types.length);have HN:=Yh hn;rw[hn]at A2 ⊢;obtain⟨w1,h1,k1,q1,z1⟩:=YA w #[.slice ao n ac,.slice no u.named.length nc] 25;have B1:=Yh q1;obtain⟨c0,c1⟩:=cell2 k1;clear hU hn k1 q1 z1 hR hr
 by_cases h0:i<0
 ·have A4:decide (i<0)=true:=Yb h0
  have HV:=Yh (show false=R by
   rw[<-HR.o];unfold fitB inL;rw[Ya (by omega),Bool.false_and])
  go_enter Tryz.func55,Tryz.ntmps55;go_wp2_with fail;go_ret;exact⟨Z0 HV.o,B1.o⟩
 ·have A4:decide (i<0)=false:=Ya h0
  obtain⟨z,rfl⟩:∃z:Nat,i=(z:Int):=⟨i.toNat,by omega⟩
  by_cases hz:z<n
  ·have A5:z<u.types.length:=by rw[HN.o];exact hz
   have A6:decide ((n:Int)<=(z:Int))=false:=Ya (by omega);have A8:(z:Int)<((z+1:Nat):Int):=by omega
   have A0:=Z44 u.types ao ac z w1 (HU.o.types.below B1.o) A3.o HU.o.tc A5;rw[HN.o]at A0;have A7:=Yh A0;obtain⟨az,haz⟩:=Yn (askD (funT u.types) (z+1) z);have A1:=Yh haz
   have HV:=Yh (show decide (az<=(most:Int))=R by
    rw[<-HR.o];unfold fitB inL askN;rw[Yb (show 0<=(z:Int)/\(z:Int)<(u.types.length:Int)by omega),Bool.true_and,Yw,A1.o])
   clear A0 haz;go_enter Tryz.func55,Tryz.ntmps55;go_wp2_with fail;refine A7.o.mono ?_;rintro e w2 ⟨bo,bc,rfl,hbr,hbc,b2⟩;have B2:=YT B1 b2;obtain⟨ob,oof,rfl,hob,hocell⟩:=hbr.cells (by rw[Zg];omega);have ca:=hocell z (by rw[Zg];omega);rw[ZD0 (by omega),A1.o]at ca;clear b2 hbr hocell hob c0 c1 h1;go_wp2_with fail;go_ret;exact⟨Z0 HV.o,B2.o⟩
  ·have A6:decide ((n:Int)<=(z:Int))=true:=Yb (by omega)
   have HV:=Yh (show false=R by
    rw[<-HR.o];unfold fitB inL;rw[Ya (by rw[HN.o];omega),Bool.false_and])
   go_enter Tryz.func55,Tryz.ntmps55;go_wp2_with fail;go_ret;exact⟨Z0 HV.o,B1.o⟩
def namesU(ns:List Nm):List ByteArray:=ns.map (·.name)
theorem Zs0(ns:List Nm):(namesU ns).length=ns.length:=by simp[namesU]
theorem ZP0{ns:List Nm}{i:Nat}(h:i<ns.length):(namesU ns).getD i ⟨#[]⟩=ns[i].name:=by
 unfold namesU;rw[Z3 (by rw[Yg];exact h),List.getElem_map]
set_option maxRecDepth 100000 in
theorem Zcb(h:Nat)(ns:List Nm)(no:Option Addr)(nc ub sb:Nat)(s:ByteArray)(w:World)(hU:URow w no ns)(hc:ns.length<=nc)(hl:ns.length<=1000)(h1:w.cell? ⟨ub,1,none⟩=some (.slice no ns.length nc))(h2:w.cell? ⟨sb,0,none⟩=some (.string s))(hh:h<ns.length) :
  Calls Tryz.prog 136 #[.int .i64 h,.pointer (some ⟨ub,0,none⟩),.pointer (some ⟨sb,0,none⟩)] w fun e w'=>e=.returned (.bool (!lessB ((namesU ns).getD h ⟨#[]⟩) s))/\∃n,w'=w.drewN n:=by
 rw[ZP0 hh];obtain⟨n,hn⟩:=Yn (ns.length);obtain⟨b,o,rfl,hb,hcc⟩:=hU.cells (by omega);obtain⟨bo,bc,mo,mc,a0,-,-,-,-,-,-⟩:=hcc h hh;obtain⟨x,hx⟩:=Yn (ns[h].name);rw[hx]at a0 ⊢;rw[hn]at h1 hc hl;have A0:h<n:=by omega
 have hI:(h:Int)<(n:Int):=by omega
 unfold lessB;clear hU hcc hb hx hn hh;go_enter Tryz.func136,Tryz.ntmps136;go_wp2_with fail;go_quiet (fail)
 rename_i nq
 go_wp2_with fail;go_ret;exact⟨by first|rfl|(simp;done),_,rfl⟩
set_option maxRecDepth 100000 in
theorem ZD9(ns:List Nm)(no:Option Addr)(nc ub sb:Nat)(s:ByteArray)(w:World)(hr:risesB (namesU ns)=true)(hU:URow w no ns)(hc:ns.length<=nc)(hl:ns.length<=1000)(h1:w.cell? ⟨ub,1,none⟩=some (.slice no ns.length nc))(h2:w.cell? ⟨sb,0,none⟩=some (.string s)) :
  Calls Tryz.prog 135 #[.int .i64 ns.length,.func (.func 136) #[] #[.pointer (some ⟨ub,0,none⟩),.pointer (some ⟨sb,0,none⟩)]] w fun e w'=>e=.returned (.int .i64 (lowU (namesU ns) s:Nat))/\Below w.heap.size w w':=by
 have HF:=Yh (fun(h:Nat) (hh:h<ns.length) W (hb:Below w.heap.size w W)=>Zcb h ns no nc ub sb s W (hU.below hb) hc hl ((hb.cell (Zv h1)).trans h1) ((hb.cell (Zv h2)).trans h2) hh);have HY:=Yh (fun(i:Nat) (h:lowU (namesU ns) s<=i) (hi:i<(namesU ns).length)=>Zk9 hr h hi);have A3:=Yh (fun(i:Nat) (h:i<lowU (namesU ns) s)=>Z89 h);have A1:=ZMb (namesU ns) s;rw[Zs0]at A1 HY;obtain⟨lo,hlo⟩:=Yn (lowU (namesU ns) s);rw[hlo]at A1 HY A3 ⊢;obtain⟨n,hn⟩:=Yn (ns.length);rw[hn]at A1 HY HF hl hc ⊢;clear hU h1 h2 hn hlo hr;go_enter Tryz.func135,Tryz.ntmps135;go_wp2_with fail;go_loopw [5,6] (fun vi vj wr=>∃i j:Nat,i<=lo/\lo<=j/\j<=n/\vi=.int .i64 i/\vj=.int .i64 j/\Hi (Below w.heap.size w wr)) (fun vi vj _=>(intOf vj).toNat-(intOf vi).toNat)
 case atStart=>exact⟨0,n,Yl _,A1,Yk _,rfl,rfl,Yh (Y8 _ _)⟩
 case round =>
  obtain⟨i,j,hi,hj,hjn,rfl,rfl,HB⟩:=hrel
  by_cases hij:i<j
  ·have A4:(i:Int)<(j:Int):=by omega
   obtain⟨h,hh⟩:∃h:Nat,((i:Int)+(j:Int)) / 2=(h:Int):=⟨(i+j) / 2,by omega⟩
   have g1:i<=h:=by omega
   have g2:h<j:=by omega
   have A0:=HF.o h (by omega) wr HB.o
   by_cases c:h<lo
   ·rw[A3.o h c]at A0
    have HC:=Yh A0;clear A0;go_wp2_with fail;refine HC.o.mono ?_;rintro e w2 ⟨rfl,nq,rfl⟩;have A2:=Yh (below_drewN HB.o nq);clear hh;go_wp2_with fail;go_roundw
    case rel=>exact⟨h+1,j,by omega,hj,hjn,by go_num,rfl,A2⟩
    case measure=>first|(simp[intOf];done)|(simp[intOf];omega)
   ·rw[HY.o h (by omega) (by omega)]at A0
    have HC:=Yh A0;clear A0;go_wp2_with fail;refine HC.o.mono ?_;rintro e w2 ⟨rfl,nq,rfl⟩;have A2:=Yh (below_drewN HB.o nq);clear hh;go_wp2_with fail;go_roundw
    case rel=>exact⟨i,h,hi,by omega,by omega,rfl,rfl,A2⟩
    case measure=>first|(simp[intOf];done)|(simp[intOf];omega)
  ·have A4:¬(i:Int)<(j:Int):=by omega
   have HV:=@Yh ((i:Int)=(lo:Int)) (by omega);go_wp2_with fail;go_ret;exact⟨Zp HV.o,HB.o⟩
def foundU(ns:List Nm)(s:ByteArray):Bool:=decide (lowU (namesU ns) s<ns.length/\(namesU ns).getD (lowU (namesU ns) s) ⟨#[]⟩=s)
set_option maxRecDepth 100000 in
theorem Z13(u:Un)(ao no:Option Addr)(ac nc:Nat)(s:ByteArray)(w:World)(hU:UnC w ao no ac nc u)(hr:risesB (namesU u.named)=true) :
  Calls Tryz.prog 113 #[unV u ao ac no nc,.string s] w fun e w'=>e=.returned (.tuple #[.int .i64 (lowU (namesU u.named) s:Nat),.bool (foundU u.named s)])/\Below w.heap.size w w':=by
 unfold unV;obtain⟨R,hR⟩:=Yn (foundU u.named s);rw[hR];have HR:=Yh hR;have HU:=Yh hU;have A2:=hU.nl;obtain⟨w1,h1,k1,q1,z1⟩:=YA w #[.slice ao u.types.length ac,.slice no u.named.length nc] 25;obtain⟨w2,h2,k2,q2,z2⟩:=YA w1 #[.string s] 9;have K1:=Yh (k1.below q2);have K2:=Yh k2;have B2:=Yh (q1.trans (q2.mono q1.size));have A0:=ZD9 u.named no nc w.heap.size w1.heap.size s w2 hr (hU.named.below B2.o) hU.nc A2 (show w2.cell? ⟨w.heap.size,1,none⟩=some (.slice no u.named.length nc)from K1.o.cell 1) (show w2.cell? ⟨w1.heap.size,0,none⟩=some (.string s)from K2.o.cell 0);obtain⟨lo,hlo⟩:=Yn (lowU (namesU u.named) s);have A3:=Yh hlo;rw[hlo]at A0 ⊢;obtain⟨n,hn⟩:=Yn (u.named.length);have HN:=Yh hn;rw[hn]at A0 h1 A2 ⊢;have HS:=Yh A0;have c1:w2.cell? ⟨w.heap.size,1,none⟩=some (.slice no n nc):=by rw[<-hn];exact K1.o.cell 1
 clear A0 hlo hn hU hR k1 q1 k2 q2 hr z1 z2;go_enter Tryz.func113,Tryz.ntmps113;go_wp2_with fail;refine HS.o.mono ?_;rintro e w3 ⟨rfl,b3⟩;have B3:=YT B2 b3;have d1:=YR b3 c1;have d2:=(b3.cell (p:=⟨w1.heap.size,0,none⟩) K2.o.lt).trans (K2.o.cell 0);clear b3 c1 h1 h2
 by_cases hln:lo<n
 ·have hI:(lo:Int)<(n:Int):=by omega
  have A1:lo<u.named.length:=by rw[HN.o];exact hln
  obtain⟨b,o,rfl,hb,hc⟩:=HU.o.named.cells (by omega);obtain⟨bo,bc,mo,mc,a0',-,-,-,-,-,-⟩:=hc lo A1;have a0:=(B3.o.cell hb).trans a0';obtain⟨x,hx⟩:=Yn (u.named[lo].name);rw[hx]at a0;have A4:=Yh (Zk x s)
  have HV:=Yh (show decide (x=s)=R by
   rw[<-HR.o];unfold foundU;rw[A3.o,ZP0 A1,hx];rw[Bool.eq_iff_iff,decide_eq_true_eq,decide_eq_true_eq];exact⟨fun g=>⟨A1,g⟩,fun g=>g.2⟩)
  clear hc a0' hx hb;go_wp2_with fail;go_quiet (fail)
  rename_i nq
  go_wp2_with fail;go_ret2;exact⟨by rw[<-HV.o,<-A4.o];rfl,below_drewN B3.o nq⟩
 ·have hI:¬(lo:Int)<(n:Int):=by omega
  have HV:=Yh (show false=R by
   rw[<-HR.o];unfold foundU;rw[Ya (by rw[A3.o,HN.o];omega)])
  go_wp2_with fail;go_quiet (fail)
  rename_i nq
  go_wp2_with fail;go_ret2;exact⟨by rw[<-HV.o];rfl,below_drewN B3.o nq⟩
theorem Z77(s:ByteArray)(w:World)(hs:s.size<=1000)(hm:MaxAt w) :
  Calls Tryz.prog 109 #[.string s] w fun e w'=>e=.returned (.bool (namedB s))/\Below w.heap.size w w':=by
 obtain⟨m,hm⟩:=hm;have HC:=Tryz.strings_Cut s ⟨#[46]⟩ m w (by omega) hm;obtain⟨r,hr⟩:=Yn (namedB s);rw[hr];unfold namedB at hr;have A3:(⟨#[46]⟩:ByteArray).data.toList=[46]:=rfl;rw[A3]at HC
 rcases ZT8 s with⟨h1,h2⟩|⟨i,hi,h1,h2,h3,h4⟩
 ·rw[h1]at hr
  rw[h2]at HC;have Hr:=@Yh (false=r) (hr);have HC:=Yh HC;clear h1 h2 hr hm;go_enter Tryz.func109,Tryz.ntmps109;go_wp2_with fail;refine HC.o.mono ?_;rintro e w' ⟨rfl,n,rfl⟩;go_wp2_with fail;go_ret;exact⟨Z0 Hr.o,below_drewN (Y8 _ _) n⟩
 ·rw[h1]at hr
  rw[h2,h3,h4]at HC;have hr:(nameB (s.extract 0 i)&&nameB (s.extract (i+1) s.size))=r:=hr;have A1:(s.extract 0 i).size<=1000:=by rw[ByteArray.size_extract];omega
  have A2:(s.extract (i+1) s.size).size<=1000:=by rw[ByteArray.size_extract];omega
  obtain⟨a,ha⟩:=Yn (s.extract 0 i);obtain⟨b,hb⟩:=Yn (s.extract (i+1) s.size);rw[ha,hb]at hr HC;rw[ha]at A1;rw[hb]at A2;have HC:=Yh HC;have A0:=Yh (fun W=>Zp0 a W (by omega));have A4:=Yh (fun W=>Zp0 b W (by omega));clear h1 h2 h3 h4 ha hb A1 A2 hm
  cases hna:nameB a
  ·rw[hna]at hr A0
   have Hr:=@Yh (false=r) (hr);clear hr hna;go_enter Tryz.func109,Tryz.ntmps109;go_wp2_with fail;refine HC.o.mono ?_;rintro e w' ⟨rfl,n,rfl⟩;go_wp2_with fail;refine(A0.o _).mono ?_;rintro e w' ⟨rfl,rfl⟩;go_wp2_with fail;go_ret;exact⟨Z0 Hr.o,below_drewN (Y8 _ _) n⟩
  ·rw[hna]at hr A0
   have Hr:=@Yh (nameB b=r) (hr);clear hr hna;go_enter Tryz.func109,Tryz.ntmps109;go_wp2_with fail;refine HC.o.mono ?_;rintro e w' ⟨rfl,n,rfl⟩;go_wp2_with fail;refine(A0.o _).mono ?_;rintro e w' ⟨rfl,rfl⟩;go_wp2_with fail;refine(A4.o _).mono ?_;rintro e w' ⟨rfl,rfl⟩;go_wp2_with fail;go_ret;exact⟨Z0 Hr.o,below_drewN (Y8 _ _) n⟩
set_option maxRecDepth 100000 in
theorem Zx8(l:List Ty)(ao:Option Addr)(ac:Nat)(w:World)(hl:ARow w ao l)(hr:rightT l=true)(hac:l.length<=ac) :
  Calls Tryz.prog 84 #[.slice ao l.length ac] w (RowZP w l.length (askD (funT l) l.length)):=by
 have A2:=(right_step hr).1;have A1:=Yh (Z20 hr);obtain⟨f,hf⟩:∃f:Nat->Ty,funT l=f:=⟨_,rfl⟩
 rw[hf]at A1 ⊢;have HF:=@Yh (∀j (hj:j<l.length),f j=l[j]) (fun j hj=>by rw[<-hf];exact Z3 hj);have HK:=@Yh (∀j (hj:j<l.length),∀k∈(f j).kids,0<=k/\k<(j:Int)) (fun j hj=>by rw[HF.o j hj];exact Zn hr hj);obtain⟨n,hn⟩:=Yn (l.length);have HN:=Yh hn;have HA:=Yh hl;rw[hn]at A2 hac ⊢;obtain⟨nb,hnb⟩:=Yn (w.heap.size);have A3:=@Yh (w.heap.size<=nb) (by omega);have Ab:=ZE2 n (by omega) w;obtain⟨w2,h2⟩:=Yn (w.alloc (.cells (rowZ n fun _=>0) 3));obtain⟨k2,q2,z2⟩:=Za h2;rw[h2,hnb]at Ab;rw[hnb]at k2;have B2:=Yh q2;have K2:=@Yh (BlockAt w2 nb (rowZ n (askD f 0)) 3) (k2);clear hl hr hf hn h2 k2 q2 z2 hnb;go_enter Tryz.func84,Tryz.ntmps84;go_wp2_with fail;clear Ab;go_loopw [13] (fun v wr=>∃k:Nat,k<=n/\v=.int .i64 k/\Hi (BlockAt wr nb (rowZ n (askD f k)) 3)/\Hi (Below w.heap.size w wr)) (fun v _=>n-(intOf v).toNat)
 case atStart=>exact⟨0,Yl _,rfl,K2,B2⟩
 case round =>
  obtain⟨k,hk,rfl,KB,HB⟩:=hrel
  by_cases hkl:k<n
  ·have A4:k<l.length:=by rw[HN.o];omega
   have As:(k:Int)<(n:Int):=by omega
   obtain⟨ab,aof,rfl,hab,hcl⟩:=HA.o.cells (by omega);have A5:=hcl k A4;rw[<-HF.o k A4]at A5;have Ac:=Yh (HK.o k A4);have Ad:=Yh (A1.o k);have A6:=Yh (fun ks=>ZS5 A1.o k k ks);have Ae:=Yh (fun m=>Zw0 A1.o k m);have A7:=@Yh (askD f (k+1)=updI (askD f k) k (askF (askD f k) (ask0 (f k)) (f k).kids)) (rfl);obtain⟨x,hx⟩:=Yn (f k);rw[hx]at A5 Ac Ad A6 A7;have HX:=Yh hx;obtain⟨xw,xwc,xk,xkc,a0',a1',a2',a3',a4',hwc,hkc,hxc⟩:=A5;have a0:=(HB.o.cell hab).trans a0';have a1:=(HB.o.cell hab).trans a1';have a2:=(HB.o.cell hab).trans a2';have a3:=(HB.o.cell hab).trans a3';have a4:=(HB.o.cell hab).trans a4';obtain⟨A,hA⟩:=Yn (askD f k);have HZ:=@Yh (A k=0) (by rw[<-hA];exact ZC3 (Yk _));rw[hA]at KB A6 A7 Ae;clear hx hcl hab hA a0' a1' a2' a3' a4';obtain⟨wn,hwn,kx,qx,zx⟩:=YA wr #[.int .i64 x.kind,.string x.name,.int .i64 x.n,.slice xw x.words.length xwc,.slice xk x.kids.length xkc] 50;obtain⟨c0,c1,c2,c3,c4⟩:=cell5 kx;have BN:=YT HB qx;have KN:=Yh (KB.o.below qx);have Af:=Yh hxc.kids;have Ag:=hxc.ok.kl;have KX:=Yh kx;have Ah:=@Yh (nb≠wr.heap.size) (by have:=KB.o.lt;omega);clear kx qx zx hwc hkc hxc;obtain⟨m,hm⟩:=Yn (x.kids.length);have HM:=Yh hm;rw[hm]at Ag hwn c4 KX a4;clear hm
   by_cases h9:x.kind=9
   focus
    have hq:(x.kind==9)=true:=by rw[YK];exact h9
    obtain⟨g1,g2⟩:=Ad.o h9;have A8:=@Yh (ask0 x=x.n+1) (by unfold ask0;rw[if_pos h9]);have ck:=KN.o.cell k;rw[Zy hkl]at ck;have fk:=KN.o.free k;obtain⟨w4,h4⟩:=Yn (wn.setCell ⟨nb,k,none⟩ (.int .i64 (x.n+1)))
    have K4:=Yh (show BlockAt w4 nb (rowZ n (updI A k (askF A (ask0 x) (x.kids.take 0)))) 3 from by
     rw[<-h4,A8.o,List.take_zero];have:=KN.o.set k (.int .i64 (x.n+1));rw[<-ZZ1 A k 0 HZ.o,Zg1]at this;exact this)
    have B4:=@Yh (Below w.heap.size w w4) (by rw[<-h4];exact ZJ BN.o A3.o);have Ai:=@Yh (BlockAt w4 wr.heap.size #[.int .i64 x.kind,.string x.name,.int .i64 x.n,.slice xw x.words.length xwc,.slice xk m xkc] 50) (by rw[<-h4];exact KX.o.other (fun e=>Ah.o e.symm) k _);obtain⟨e0,e1,e2,e3,e4⟩:=cell5 Ai.o;clear h9;go_wp2_with fail;clear e0 e1 e2 e3 e4 hwn a0 a1 a2 a3 a4 ck fk c0 c1 c2 c3 c4 h4
   rotate_left
   focus
    have hq:(x.kind==9)=false:=by rw[Yc];exact h9
    have A8:=@Yh (ask0 x=0) (by unfold ask0;rw[if_neg h9])
    have K4:=Yh (show BlockAt wn nb (rowZ n (updI A k (askF A (ask0 x) (x.kids.take 0)))) 3 from by
     rw[A8.o,List.take_zero]
     show BlockAt wn nb (rowZ n (updI A k 0)) 3
     rw[ZZ1 A k 0 HZ.o];exact KN.o)
    have B4:=BN;clear h9;go_wp2_with fail;clear c0 c1 c2 c3 c4 hwn a0 a1 a2 a3 a4
   all_goals
    go_loopw [30] (fun v wq=>∃q:Nat,q<=m/\v=.int .i64 q/\Hi (BlockAt wq nb (rowZ n (updI A k (askF A (ask0 x) (x.kids.take q)))) 3)/\Hi (Below w.heap.size w wq)) (fun v _=>m-(intOf v).toNat)
    case atStart=>exact⟨0,Yl _,rfl,K4,B4⟩
    case round =>
     obtain⟨q,hq,rfl,KQ,HQ⟩:=hrel
     by_cases hql:q<m
     ·have A9:q<x.kids.length:=by rw[HM.o];exact hql
      obtain⟨kb,kof,rfl,hkb,hkcell⟩:=Af.o.cells (by omega);have ck:=hkcell q A9;obtain⟨g1,g2⟩:=Ac.o _ (Zd A9);obtain⟨z,hz⟩:∃z:Nat,x.kids.getD q 0=(z:Int):=⟨(x.kids.getD q 0).toNat,by omega⟩
      have A0:=Z11 (A:=A) (n:=ask0 x) A9;rw[hz]at ck g2 A0;rw[Yw]at A0;have At:z<k:=by omega
      have Aj:z<n:=by omega
      have Au:(z:Int)<(n:Int):=by omega
      have Ak:¬k=z:=by omega
      have Al:wr.cell? ⟨kb,kof+q,none⟩=some (.int .i64 (z:Int)):=by rw[HQ.o.cell (p:=⟨kb,kof+q,none⟩) hkb];exact ck
      obtain⟨x1,hx1⟩:=A6.o (x.kids.take q);obtain⟨y1,hy1⟩:=Ae.o z;have cx:=KQ.o.cell k;have cz:=KQ.o.cell z;rw[Zy hkl,Z50]at cx;rw[Zy Aj,ZT (by omega)]at cz;have Am:=KQ.o.free k;obtain⟨x0,hx0⟩:=Yn (askF A (ask0 x) (x.kids.take q));obtain⟨y0,hy0⟩:=Yn (A z);obtain⟨z0,hz0⟩:=Yn (max x0 y0);rw[hx0]at cx x1 hx1 A0;rw[hy0]at cz y1 hy1 A0;rw[hz0]at A0;have An:=Yh A0;have Aa:∀(ts:Array TypeId) (t:TypeId) (W:World),(Builtin.max_ ts t #[.int .i64 x0,.int .i64 y0]).run Tryz.prog W=.ok (.int .i64 z0) W:=fun ts t W=>by rw[run_max_int2,show(if y0>x0 then y0 else x0)=z0 by rw[<-hz0];split<;>omega]
      have Ao:=Yh (show BlockAt (wr.setCell ⟨nb,k,none⟩ (.int .i64 z0)).drew nb (rowZ n (updI A k (askF A (ask0 x) (x.kids.take (q+1))))) 3 from by
       rw[An.o,<-Zg1 (x:=askF A (ask0 x) (x.kids.take q))];exact KQ.o.set k _)
      have Ap:=@Yh (Below w.heap.size w (wr.setCell ⟨nb,k,none⟩ (.int .i64 z0)).drew) ((ZJ HQ.o A3.o).drew);clear A0 hz hx0 hy0 hz0 ck hkcell hkb g1;go_upto_region 10 with fail;refine GoG.start [(12,⟨nb,k,none⟩,.int .i64 x0),(13,⟨nb,z,none⟩,.int .i64 y0)] (by kernel_rfl) ?_ ?_
      ·exact Kc (by first|assumption|simp[*]) (Kc (by first|assumption|simp[*]) (Kn))
      refine GoG.fr 0 ?_;refine GoG.fr 1 ?_;refine GoG.fr 2 ?_;refine GoG.fr 3 ?_;refine GoG.fr 4 ?_;refine GoG.s1 5 0 [10,12] ?_;refine GoG.fr 6 ?_;refine GoG.fr 7 ?_;refine GoG.fr 8 ?_;refine GoG.s1 9 1 [10,12,13] ?_;refine GoG.fr 10 ?_;refine GoG.fr 11 ?_;refine GoG.on 12 fun K hK=>?_
      go_simp;refine hK.out _ _ (Ku (Kc (by go_simp) (Kn))) ?_;clear hK K;refine GoG.done (by kernel_rfl) ?_ _;clear cx cz Am Al Aa;go_wp2_with fail;go_roundw
      case rel=>exact⟨q+1,by omega,by go_num,Ao,Ap⟩
      case measure=>first|(simp[intOf];done)|(simp[intOf];omega)
     ·have Aq:=@Yh (x.kids.take q=x.kids) (Y3 (by rw[HM.o];omega))
      have Ar:=Yh (show BlockAt wr nb (rowZ n (askD f (k+1))) 3 from by
       rw[A7.o,<-Aq.o];exact KQ.o)
      go_wp2_with fail;go_roundw
      case rel=>exact⟨k+1,by omega,by go_num,Ar,HQ⟩
      case measure=>first|(simp[intOf];done)|(simp[intOf];omega)
  ·obtain rfl:k=n:=by omega
   go_wp2_with fail;go_ret;exact Zs7 KB.o A3.o HB.o
def AskC(w:World)(b:Nat)(l:List Ty):Prop:=∀i,i<l.length->w.cell? ⟨b,i,none⟩=some (.int .i64 (askN l (i:Int)))
theorem AskC.below{w w':World}{b:Nat}{l:List Ty}(h:AskC w b l)(hb:Below w.heap.size w w'):AskC w' b l:=fun i hi=>(hb.cell (Zv (h i hi))).trans (h i hi)
theorem Zid{w:World}{b:Nat}{l:List Ty}(h:BlockAt w b (rowZ l.length (askD (funT l) l.length)) 3):AskC w b l:=fun i hi=>by
 have:=h.cell i;rw[Zy hi]at this;rw[this];unfold askN;rw[Yw,Zt1 (f:=funT l) (m:=i) (c:=i+1) (d:=l.length) (by omega) (by omega)]
theorem Zfd{l:List Ty}{z:Nat}{most:Nat}(hz:z<l.length):fitB l (z:Int) most=decide (askN l (z:Int)<=(most:Int)):=by
 unfold fitB inL;rw[Yb (by omega),Bool.true_and]
theorem Zya{l:List Ty}{i:Int}{most:Nat}(hz:i<0\/(l.length:Int)<=i):fitB l i most=false:=by
 unfold fitB inL;rw[Ya (by omega),Bool.false_and]
set_option maxRecDepth 100000 in
theorem ZB9(l:List Ty)(ao bo:Option Addr)(ac bc most lb ab nb qb:Nat)(i:Int)(w:World)(hac:l.length<=ac)(ll:l.length<=1000)(hq:AskC w qb l)(h1:w.cell? ⟨lb,0,none⟩=some (.slice ao l.length ac))(h2:w.cell? ⟨ab,0,none⟩=some (.slice (some ⟨qb,0,none⟩) l.length l.length))(h3:w.cell? ⟨nb,1,none⟩=some (.slice bo most bc)) :
  Calls Tryz.prog 110 #[.int .i64 i,.pointer (some ⟨lb,0,none⟩),.pointer (some ⟨ab,0,none⟩),.pointer (some ⟨nb,0,none⟩)] w fun e w'=>e=.returned (.bool (fitB l i most))/\∃n,w'=w.drewN n:=by
 obtain⟨R,hR⟩:=Yn (fitB l i most);rw[hR];have HR:=Yh hR;obtain⟨n,hn⟩:=Yn (l.length);have HN:=Yh hn;rw[hn]at h1 h2 hac ll;have HQ:=Yh hq;clear hn hR hq
 by_cases h0:0<=i
 ·have A1:decide (0<=i)=true:=Yb h0
  obtain⟨z,rfl⟩:∃z:Nat,i=(z:Int):=⟨i.toNat,by omega⟩
  have A3:decide ((0:Int)<=(z:Int))=true:=Yb h0
  by_cases hz:z<n
  ·have A0:z<l.length:=by rw[HN.o];exact hz
   have hI:(z:Int)<(n:Int):=by omega
   have A2:decide ((z:Int)<(n:Int))=true:=Yb hI;have ca:=HQ.o z A0;have HV:=@Yh (decide (askN l (z:Int)<=(most:Int))=R) (by rw[<-HR.o,Zfd A0]);obtain⟨a,haa⟩:=Yn (askN l (z:Int));rw[haa]at ca HV;clear haa h0;go_enter Tryz.func110,Tryz.ntmps110;go_wp2_with fail;go_quiet (fail)
   rename_i nq
   go_wp2_with fail;go_ret;exact⟨Z0 HV.o,_,rfl⟩
  ·have hI:¬(z:Int)<(n:Int):=by omega
   have A2:decide ((z:Int)<(n:Int))=false:=Ya hI;have HV:=@Yh (false=R) (by rw[<-HR.o,Zya (.inr (by rw[HN.o];omega))]);clear h0;go_enter Tryz.func110,Tryz.ntmps110;go_wp2_with fail;go_quiet (fail)
   rename_i nq
   go_wp2_with fail;go_ret;exact⟨Z0 HV.o,_,rfl⟩
 ·have A1:decide (0<=i)=false:=Ya h0
  have HV:=@Yh (false=R) (by rw[<-HR.o,Zya (.inl (by omega))]);go_enter Tryz.func110,Tryz.ntmps110;go_wp2_with fail;go_quiet (fail)
  rename_i nq
  go_wp2_with fail;go_ret;exact⟨Z0 HV.o,_,rfl⟩
def nolessB(l:List Ty)(i:Int):Bool:=decide (¬(14<=i/\i<=19)/\kindAt l i≠8/\kindAt l i≠9)
set_option maxRecDepth 100000 in
theorem Zl8(l:List Ty)(ao:Option Addr)(ac z:Nat)(w:World)(hl:ARow w ao l)(hac:l.length<=ac)(ll:l.length<=1000)(hz:z<l.length) :
  Calls Tryz.prog 111 #[.slice ao l.length ac,.int .i64 z] w fun e w'=>e=.returned (.bool (nolessB l (z:Int)))/\w=w':=by
 obtain⟨R,hR⟩:=Yn (nolessB l (z:Int));rw[hR];obtain⟨ab,aof,rfl,hab,hac2⟩:=hl.cells (by omega);obtain⟨_,_,_,_,ca,-⟩:=hac2 z hz;obtain⟨X,hX⟩:=Yn (l[z].kind);rw[hX]at ca
 have HR:=Yh (show decide (¬(14<=(z:Int)/\(z:Int)<=19)/\X≠8/\X≠9)=R by
  rw[<-hR];unfold nolessB;rw[Ze hz,hX])
 obtain⟨n,hn⟩:=Yn (l.length);rw[hn]at hz hac ll ⊢;have hI:(z:Int)<(n:Int):=by omega
 clear hR hX hac2 hab hn hl
 by_cases u1:14<=(z:Int)
 ·by_cases u2:(z:Int)<=19
  ·have HV:=@Yh (false=R) (by rw[<-HR.o,Ya (by omega)])
   go_enter Tryz.func111,Tryz.ntmps111;go_wp2_with fail;go_ret;exact⟨Z0 HV.o,rfl⟩
  ·by_cases u8:X=8
   ·have HV:=@Yh (false=R) (by rw[<-HR.o,Ya (by omega)])
    have q1:(X != 8)=false:=by rw[bne_eq_false_iff_eq];exact u8
    go_enter Tryz.func111,Tryz.ntmps111;go_wp2_with fail;go_ret;exact⟨Z0 HV.o,rfl⟩
   ·have q1:(X != 8)=true:=by rw[YJ];exact u8
    have HV:=@Yh ((X != 9)=R) (by rw[<-HR.o,Bool.eq_iff_iff,YJ,decide_eq_true_eq];omega);go_enter Tryz.func111,Tryz.ntmps111;go_wp2_with fail;go_ret;exact⟨Z0 HV.o,rfl⟩
 ·by_cases u8:X=8
  ·have HV:=@Yh (false=R) (by rw[<-HR.o,Ya (by omega)])
   have q1:(X != 8)=false:=by rw[bne_eq_false_iff_eq];exact u8
   go_enter Tryz.func111,Tryz.ntmps111;go_wp2_with fail;go_ret;exact⟨Z0 HV.o,rfl⟩
  ·have q1:(X != 8)=true:=by rw[YJ];exact u8
   have HV:=@Yh ((X != 9)=R) (by rw[<-HR.o,Bool.eq_iff_iff,YJ,decide_eq_true_eq];omega);go_enter Tryz.func111,Tryz.ntmps111;go_wp2_with fail;go_ret;exact⟨Z0 HV.o,rfl⟩
end Go.Proofs.YtdcajkagakikiaaGreatDoor
