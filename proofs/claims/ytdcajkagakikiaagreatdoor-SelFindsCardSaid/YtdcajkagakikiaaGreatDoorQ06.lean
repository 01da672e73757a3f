import Derived.Test.YtdcajkagakikiaaGreatDoorQ05
import Derived.Laws.MakeOwn
import Derived.Laws.OwnMore
import Derived.Deep.OwnRows
namespace Go.Proofs.YtdcajkagakikiaaGreatDoor
set_option maxHeartbeats 64000000
set_option linter.unusedSimpArgs false
set_option linter.unusedVariables false
open Go.RowKit
structure Env (w:World):Prop where
 basics:EnvB w
 max:MaxAt w
 pow:PowAt w
theorem Env.below{w w':World}(h:Env w)(hb:Below w.heap.size w w'):Env w':=⟨h.basics.below hb,h.max.below hb,h.pow.below hb⟩
def noT:Ty:=⟨0,⟨#[]⟩,0,[],[]⟩
def pairs(l:List Ty)(k:Nat):List (Ky×Nat):=(List.range (k-22)).map fun i=>(keyT (l.getD (i+22) noT),i+22)
theorem Z2a{l:List Ty}{k:Nat}(h:22<=k):pairs l (k+1)=pairs l k++[(keyT (l.getD k noT),k)]:=by
 unfold pairs;rw[show k+1-22=(k-22)+1 by omega,List.range_succ,Yu,List.map_cons,List.map_nil,show k-22+22=k by omega]
theorem ZHa(l:List Ty)(k:Nat):(pairs l k).length=k-22:=by unfold pairs;simp
theorem Zo6{l:List Ty}{k:Nat}{p:Ky×Nat}(h:p∈pairs l k):∃i,22<=i/\i<k/\p=(keyT (l.getD i noT),i):=by
 unfold pairs at h;obtain⟨i,hi,rfl⟩:=Y4.1 h;rw[List.mem_range]at hi;exact⟨i+22,by omega,by omega,rfl⟩
theorem ZO6{l:List Ty}{k i:Nat}(h1:22<=i)(h2:i<k):(keyT (l.getD i noT),i)∈pairs l k:=by
 unfold pairs;refine Y4.2 ⟨i-22,List.mem_range.2 (by omega),?_⟩;rw[show i-22+22=i by omega]
theorem Z39{t:Ty}(h:TyOk t)(hs:TySm t):KyOk (keyT t):=by
 have hk:∀i,-9223372036854775808<=t.kids.getD i 0/\t.kids.getD i 0<=9223372036854775807:=fun i=>by
  by_cases hi:i<t.kids.length
  ·exact h.ks _ (Zd hi)
  ·rw[List.getD_eq_getElem?_getD,List.getElem?_eq_none (by omega)]
   exact⟨by decide,by decide⟩
 refine⟨h.nums.1,h.nums.2,?_,hk 0,hk 1,?_⟩
 ·show _<=(t.kids.length:Int)/\(t.kids.length:Int)<=_
  have:=h.kl
  omega
 ·show(restL t).length<=20001000
  unfold restL;have h1:(baseL t).length<=20000000:=Zi5 h hs;have h2:=Zr3 (ks:=t.kids.drop 2) (fun x hx=>h.ks x (List.mem_of_mem_drop hx));have h3:=h.kl;have h4:(t.kids.drop 2).length<=18:=by rw[List.length_drop];omega
  rw[Ye]
  omega
theorem Z0a{l:List Ty}{k:Nat}{x:Ty}(hk:22<=k)(hl:k<l.length)(hb:∀j (hj:j<l.length),j<22->l[j]=bas j)(h:0<=atT basics x):stepB l k x=false:=by
 have hm:x∈basics:=by
  have:=mt (atT_neg (l:=basics) (t:=x)).2;exact Y7 fun g=>this (by omega) g
 obtain⟨j,hj,rfl⟩:=List.getElem_of_mem hm;have A0:j<22:=by rw[ZH]at hj;exact hj
 refine ZM5 (by omega) ?_
 have:¬atT (l.take k) basics[j]<0:=fun g=>(atT_neg.1 g) (by
  rw[List.mem_take_iff_getElem];exact⟨j,by omega,(hb j (by omega) A0).trans (ZN0 hj).symm⟩)
 omega
theorem Z6a{l:List Ty}{k i:Nat}{x:Ty}(hk:¬k<22)(hl:k<=l.length)(hi:i<k)(h:l[i]'(by omega)=x):stepB l k x=false:=by
 refine ZM5 hk ?_
 have:¬atT (l.take k) x<0:=fun g=>(atT_neg.1 g) (by
  rw[<-h,List.mem_take_iff_getElem];exact⟨i,by omega,rfl⟩)
 omega
theorem step_ok{l:List Ty}{k:Nat}{x:Ty}(hk:22<=k)(hl:k<l.length)(hb:∀j (hj:j<l.length),j<22->l[j]=bas j)(hst:∀j (hj:j<l.length),j<k->stepB l j l[j]=true)
  (hm:madeB (l.take k) x=true) (hn:atT basics x<0) (hp:∀p∈pairs l k,p.1≠keyT x):stepB l k x=true:=by
 refine Zi8 (by omega) hm (atT_neg.2 fun g=>?_);rw[List.mem_take_iff_getElem]at g;obtain⟨j,hj,rfl⟩:=g
 by_cases hj2:j<22
 ·refine absurd hn ?_
  have:¬atT basics l[j]<0:=fun e=>(atT_neg.1 e) (by
   rw[hb j (by omega) hj2,<-ZN0 (by rw[ZH];exact hj2)];exact Yq _)
  exact this
 ·have:=hp _ (ZO6 (l:=l) (k:=k) (i:=j) (by omega) (by omega))
  rw[Z3 (by omega)]at this;exact this rfl
theorem Zt9{l:List Ty}{j:Nat}{x:Ty}(h:stepB l j x=true)(hj:¬j<22):Made x:=by
 unfold stepB at h;rw[if_neg hj,Yd]at h;exact Zc1 h.1
theorem ZDb{l:List Ty}{k:Nat}{x:Ty}(hk:22<=k)(hl:k<=l.length)(hst:∀j (hj:j<l.length),j<k->stepB l j l[j]=true)(hm:madeB (l.take k) x=true){p:Ky×Nat}(hp:p∈pairs l k)(he:p.1=keyT x):stepB l k x=false:=by
 obtain⟨i,h1,h2,rfl⟩:=Zo6 hp;have hi:i<l.length:=by omega
 refine Z6a (by omega) hl h2 (Zh8 (Zt9 (hst i hi h2) (by omega)) (Zc1 hm) ?_);have he:keyT (l.getD i noT)=keyT x:=he
 rwa [Z3 hi]at he
theorem ZY2{l:List Ty}{j:Nat}(hj:j<l.length)(h22:j<22):stepB l j l[j]=decide (l[j]=bas j):=by
 rw[Z28 h22,ZN0]
theorem ZHc(m:Int)(w:World):(Instr.makeMap 137 (some (.int .i64 m))).run Tryz.prog w=.ok (.map (some w.heap.size)) (w.alloc (.map #[] 0)):=by
 simp[Instr.makeMap,run_underlying Tryz.underlying137,asInt,asIntOf,Result.andThen]
def IdxR(l:List Ty)(w:World)(e:Ending)(w':World):Prop:=
 ∃mo,e=.returned (.tuple #[.map mo,.bool (rightT l)])/\Below w.heap.size w w'/\(rightT l=true->∃b,mo=some b/\w.heap.size<=b/\KMap w' b (pairs l l.length))
theorem Zd2{l:List Ty}{w w':World}(h:rightT l=false)(hb:Below w.heap.size w w'):IdxR l w (.returned (.tuple #[.map none,.bool false])) w':=
 ⟨none,by rw[h],hb,fun g=>by rw[h]at g;cases g⟩
theorem ZNd{l:List Ty}{w w':World}{b n:Nat}(h:rightT l=true)(hb:Below w.heap.size w w')(hm:w.heap.size<=b)(hn:l.length=n)(hk:KMap w' b (pairs l n)):IdxR l w (.returned (.tuple #[.map (some b),.bool true])) w':=
 ⟨some b,by rw[h],hb,fun _=>⟨b,rfl,hm,by rw[hn];exact hk⟩⟩
set_option maxRecDepth 100000 in
theorem Zz6(l:List Ty)(ao:Option Addr)(ac:Nat)(w:World)(hl:ARow w ao l)(ll:l.length<=1000)(hac:l.length<=ac)(hE:Env w) :
  Calls Tryz.prog 83 #[.slice ao l.length ac] w (IdxR l w):=by
 obtain⟨n,hn⟩:=Yn (l.length);have HN:=Yh hn;have HA:=Yh hl;have HE:=Yh hE;rw[hn]at ll hac ⊢;clear hn hl hE
 by_cases c1:n<22
 ·have Hn:=@Yh (rightT l=false) (ZE0 (by rw[HN.o];omega))
  go_enter Tryz.func83,Tryz.ntmps83;go_wp2_with fail;go_ret2;exact Zd2 Hn.o (Y8 _ _)
 by_cases c2:400<n
 ·have Hn:=@Yh (rightT l=false) (ZE0 (by rw[HN.o];omega))
  go_enter Tryz.func83,Tryz.ntmps83;go_wp2_with fail;go_ret2;exact Zd2 Hn.o (Y8 _ _)
 go_enter Tryz.func83,Tryz.ntmps83;go_wp2_with fail;go_loopw [19] (fun i wr=>∃k:Nat,k<=22/\i=.int .i64 k/\Hi (∀j (hj:j<l.length),j<k->l[j]=bas j)/\Hi (Below w.heap.size w wr)) (fun i _=>22-(intOf i).toNat)
 case atStart=>exact⟨0,Yl _,rfl,Yh (fun j _ hj=>absurd hj (Yr _)),Yh (Y8 _ _)⟩
 case round =>
  obtain⟨k,hk,rfl,A0,HB⟩:=hrel
  by_cases hkl:k<22
  ·have A1:k<l.length:=by rw[HN.o];omega
   obtain⟨ab,aof,rfl,hab,hcl⟩:=(HA.o.below HB.o).cells (by omega);have Aa:=hcl k A1;obtain⟨x,hx⟩:=Yn (l[k]);rw[hx]at Aa;have HX:=Yh hx;obtain⟨xw,xwc,xk,xkc,a0,a1,a2,a3,a4,hcap,-,hxc⟩:=Aa;have A6:=Zb6 x xw xk xwc xkc k hkl wr hxc (HE.o.below HB.o).basics;unfold tyV at A6;have A6:=Yh A6;clear hx hcl hab hxc
   by_cases he:x=bas k
   ·rw[Yb he]at A6
    have Hx:=Yh (show ∀j (hj:j<l.length),j<k+1->l[j]=bas j from fun j h1 hj=>by
     rcases Ym (Ys hj)with h3|h3
     ·exact A0.o j h1 h3
     ·subst h3;rw[HX.o];exact he)
    clear he;go_wp2_with fail;refine A6.o.mono ?_;rintro e w' ⟨rfl,b⟩;have B2:=YT HB b;clear b a0 a1 a2 a3 a4;go_wp2_with fail;go_roundw
    case rel=>exact⟨k+1,by omega,by go_num,Hx,B2⟩
    case measure=>first|(simp[intOf];done)|(simp[intOf];omega)
   ·rw[Ya he]at A6
    have Hn:=@Yh (rightT l=false) (Zm0 A1 (by rw[ZY2 A1 hkl,HX.o,Ya he]));clear he;go_wp2_with fail;refine A6.o.mono ?_;rintro e w' ⟨rfl,b⟩;have B2:=YT HB b;clear b a0 a1 a2 a3 a4;go_wp2_with fail;go_ret2;exact Zd2 Hn.o B2.o
  ·have Ag:=@Yh (k=22) (by omega)
   have A0:=@Yh (∀j (hj:j<l.length),j<22->l[j]=bas j) (fun j hj h=>A0.o j hj (by rw[Ag.o];exact h));obtain⟨w2,hw2⟩:∃w2,w2=wr:=⟨_,rfl⟩
   subst hw2;obtain⟨wm,hwm⟩:=Yn (w2.alloc (.map #[] 0));obtain⟨mb,hmb⟩:=Yn (w2.heap.size);have Ah:=Zfc w2;have Ap:=ZHc ((n-22:Nat):Int) w2;have Aq:Below w2.heap.size w2 wm:=by rw[<-hwm];exact(Y8 _ _).alloc (Yk _) _
   rw[hwm,hmb]at Ah Ap;have Ar:=Yh hmb;have KM:=@Yh (KMap wm mb (pairs l 22)) (Ah);have BM:=Yh Aq;have Ab:=A0;have Ac:=@Yh (∀j (hj:j<l.length),j<22->stepB l j l[j]=true) (fun j hj h=>by rw[ZY2 hj h,Yb (A0.o j hj h)]);have Ai:(n:Int)-22=((n-22:Nat):Int):=by omega
   have BW:=HB;clear Ah Aq A0 hwm hmb HB;go_wp2_with fail;clear Ap Ai;go_loopw [6] (fun i wx=>∃k:Nat,22<=k/\k<=n/\i=.int .i64 k/\Hi (∀j (hj:j<l.length),j<k->stepB l j l[j]=true)/\Hi (KMap wx mb (pairs l k))/\Hi (Below w2.heap.size w2 wx)) (fun i _=>n-(intOf i).toNat)
   case atStart=>exact⟨22,Yk _,by omega,rfl,Ac,KM,BM⟩
   case round =>
    obtain⟨k,hk0,hk,rfl,A0,KM,HB⟩:=hrel;have BB:=YT BW HB.o
    by_cases hkl:k<n
    ·have A1:k<l.length:=by rw[HN.o];exact hkl
     obtain⟨ab,aof,rfl,hab,hcl⟩:=(HA.o.below BB.o).cells (by omega);have Aa:=hcl k A1;obtain⟨x,hx⟩:=Yn (l[k]);rw[hx]at Aa;have HX:=Yh hx;obtain⟨xw,xwc,xk,xkc,a0,a1,a2,a3,a4,hcap,hkap,hxc⟩:=Aa;have Ax:=Yh hxc.ok;clear hx hcl hab;obtain⟨wn,hwn,k2,q2,z2⟩:=YA wr #[.int .i64 x.kind,.string x.name,.int .i64 x.n,.slice xw x.words.length xwc,.slice xk x.kids.length xkc] 50;obtain⟨c0,c1',c2',c3,c4⟩:=cell5 k2;have BN:=YT HB q2;have A7:=YT BB q2;have A8:=Yh (YH hcap (YH hkap (hxc.below q2)));have ZL:=@Yh (wr.heap.size<wn.heap.size) (by omega);have KN:=Yh k2;have Ay:=Yh (KM.o.below q2);have Aj:=Yh (HE.o.below A7.o);clear k2 q2 z2 hxc hcap hkap;have As:(l.take k).length=k:=by rw[Y5];omega
     have A2:=fun W (h:Below wn.heap.size wn W)=>Zg6 (l.take k) (some ⟨ab,aof,none⟩) ac x xw xk xwc xkc W (((HA.o.below A7.o).below h).take k) (A8.o.2.2.below h) (by omega) A8.o.1 (Aj.o.below h).max
     have A3:=fun W (h:Below wn.heap.size wn W)=>Zg2 x xw xk xwc xkc W (A8.o.2.2.below h) (Aj.o.below h).basics
     unfold tyV at A2 A3;rw[As]at A2;obtain⟨mb1,hmb1⟩:=Yn (madeB (l.take k) x);obtain⟨at0,hat0⟩:=Yn (atT basics x);rw[hmb1]at A2;rw[hat0]at A3;have A4:=Yh hmb1;have At:=Yh hat0;have Ak:=Yh A2;have Au:=Yh A3;have AD:k<=ac:=by omega
     clear A2 A3 hmb1 hat0 As
     cases mb1
     ·have Hn:=@Yh (rightT l=false) (Zm0 A1 (by rw[HX.o];exact ZE6 (by omega) A4.o))
      go_wp2_with fail;clear hwn a0 a1 a2 a3 a4;have Al:Below wn.heap.size wn wn.drew:=(Y8 _ _).drew;refine GoG.start [(4,⟨wr.heap.size,0,none⟩,.int .i64 x.kind),(4,⟨wr.heap.size,1,none⟩,.string x.name),(4,⟨wr.heap.size,2,none⟩,.int .i64 x.n),(4,⟨wr.heap.size,3,none⟩,.slice xw x.words.length xwc),(4,⟨wr.heap.size,4,none⟩,.slice xk x.kids.length xkc)] (by kernel_rfl) ?_ ?_
      ·exact Kc (by first|exact c0|assumption|simp[*]) (Kc (by first|exact c1' | assumption|simp[*]) (Kc (by first|exact c2' | assumption|simp[*]) (Kc (by first|exact c3|assumption|simp[*]) (Kc (by first|exact c4|assumption|simp[*]) (Kn)))))
      refine GoG.fr 0 ?_;refine GoG.fr 1 ?_;refine GoG.fr 2 ?_;refine GoG.take (i:=3) (v:=?_) [4] rfl (by kernel_rfl) (by kernel_rfl) (by kernel_rfl) (by kernel_rfl) (by kernel_rfl) (by kernel_rfl) (fun _ _ _ h=>h) (.inl ⟨by rfl,fun w hS=>?_⟩) ?_;rotate_left
      ·have g0:w.cell? ⟨wr.heap.size,0,none⟩=some (.int .i64 x.kind):=hS (4,⟨wr.heap.size,0,none⟩,.int .i64 x.kind) (by simp) (by simp)
       have g1:w.cell? ⟨wr.heap.size,1,none⟩=some (.string x.name):=hS (4,⟨wr.heap.size,1,none⟩,.string x.name) (by simp) (by simp);have g2:w.cell? ⟨wr.heap.size,2,none⟩=some (.int .i64 x.n):=hS (4,⟨wr.heap.size,2,none⟩,.int .i64 x.n) (by simp) (by simp);have g3:w.cell? ⟨wr.heap.size,3,none⟩=some (.slice xw x.words.length xwc):=hS (4,⟨wr.heap.size,3,none⟩,.slice xw x.words.length xwc) (by simp) (by simp);have g4:w.cell? ⟨wr.heap.size,4,none⟩=some (.slice xk x.kids.length xkc):=hS (4,⟨wr.heap.size,4,none⟩,.slice xk x.kids.length xkc) (by simp) (by simp);clear hS;go_simp;try (with_reducible rfl)
      try simp only[Act.put,YB,YC,YD,YE,YF,YG]
      refine GoG.on 4 fun K hK=>?_
      go_simp;refine(Ak.o _ Al).mono ?_;rintro e w' ⟨rfl,bq⟩;have A9:=Al.trans (bq.mono Al.size);refine hK.out _ _ (Ku (Ku (Ku (Ku (Ku (Kn)))))) ?_;clear hK K;refine GoG.fr 5 ?_;refine GoG.fr 6 ?_;refine GoG.uw 7 ?_;refine GoG.uw 8 ?_;refine GoG.uw 9 ?_;refine GoG.fr 10 ?_;refine GoG.done (by kernel_rfl) ?_ _;have B2:=YT A7 A9;clear A9 bq c0 c1' c2' c3 c4;go_wp2_with fail;go_ret2;exact Zd2 Hn.o B2.o
     ·by_cases hneg:at0<0
      ·have Az:¬(0<=at0):=by omega
       go_wp2_with fail;clear hwn a0 a1 a2 a3 a4
       go_region_held3 (fun w'=>w'.cell? ⟨wr.heap.size,0,none⟩=some (.int .i64 x.kind)/\w'.cell? ⟨wr.heap.size,1,none⟩=some (.string x.name)/\w'.cell? ⟨wr.heap.size,2,none⟩=some (.int .i64 x.n)/\w'.cell? ⟨wr.heap.size,3,none⟩=some (.slice xw x.words.length xwc)/\w'.cell? ⟨wr.heap.size,4,none⟩=some (.slice xk x.kids.length xkc)/\Below wn.heap.size wn w')
        (first|exact⟨c0,c1',c2',c3,c4,(Y8 _ _).drew⟩|assumption)
        (first|(go_at_call 106;refine(Ak.o _ (ZY (by assumption))).mono ?_;rintro e w' ⟨rfl,bq⟩;have A9:=ZC0 ZL.o (by assumption) bq)|(go_at_call 107;refine(Au.o _ (ZY (by assumption))).mono ?_;rintro e w' ⟨rfl,bq3⟩;have Ad:=ZC0 ZL.o (by assumption) bq3))
       have BQ:=Yh (ZY Ad);have B2:=YT A7 BQ.o;clear A9 bq Ad bq3 c0 c1' c2' c3 c4;obtain⟨w5,hw5⟩:∃w5,w5=w':=⟨_,rfl⟩
       subst hw5;obtain⟨c0,c1',c2',c3,c4⟩:=cell5 (KN.o.below BQ.o);have Av:=Yh (ZY4 A4.o);have Ae:=Yh (Z39 Ax.o Av.o);have A5:=ZU6 x xw xk xwc xkc w5 (A8.o.2.2.below BQ.o) Av.o A8.o.1 A8.o.2.1 (Aj.o.below BQ.o).pow;obtain⟨ky,hky⟩:=Yn (keyT x);rw[hky]at A5 Ae;have Am:=Yh hky;unfold tyV at A5;have AA:=Yh A5;clear A5 hky;go_wp2_with fail;refine AA.o.mono ?_;rintro e w6 ⟨rfl,b6⟩;unfold keyV;have B6:=YT B2 b6;obtain⟨w7,hw7,k7,q7,z7⟩:=YA w6 #[.int .i64 ky.kind,.int .i64 ky.n,.int .i64 ky.many,.int .i64 ky.k0,.int .i64 ky.k1,.string ky.rest] 166;have An:=Yh (((Ay.o.below BQ.o).below b6).below q7);have B7:=YT B6 q7;have Aw:=Yh (BN.o.trans ((BQ.o.trans ((b6.trans (q7.mono b6.size)).mono BQ.o.size)).mono BN.o.size));obtain⟨d0,d1,d2,d3,d4,d5⟩:=cell6 k7;clear b6 k7 q7 z7 c0 c1' c2' c3 c4
       by_cases hd:∃p∈pairs l k,p.1=ky
       ·obtain⟨⟨ky',i⟩,hp,he⟩:=hd
        have he:ky'=ky:=he;have Hn:=@Yh (rightT l=false) (Zm0 A1 (by rw[HX.o];exact ZDb hk0 (by omega) A0.o A4.o hp (by rw[Am.o];exact he)));rw[he]at hp;have Ao:=An.o.hit Ae.o hp;unfold keyV at Ao;clear hp he;go_wp2_with fail;go_ret2;exact Zd2 Hn.o B7.o
       ·have Af:∀p∈pairs l k,p.1≠ky:=fun p hp g=>hd ⟨p,hp,g⟩
        have Ao:=An.o.miss Ae.o Af;obtain⟨w8,hst,km8,g8⟩:=An.o.store Ae.o Af (i:=k) (by omega) (by rw[ZHa];omega);unfold keyV at Ao hst;have AB:=Yh (step_ok hk0 A1 Ab.o A0.o A4.o (by rw[At.o];exact hneg) (by rw[Am.o];exact Af))
        have Hx:=Yh (show ∀j (hj:j<l.length),j<k+1->stepB l j l[j]=true from fun j h1 hj=>by
         rcases Ym (Ys hj)with h3|h3
         ·exact A0.o j h1 h3
         ·subst h3;rw[HX.o];exact AB.o)
        have AC:=Yh (show KMap w8 mb (pairs l (k+1))from by
         rw[Z2a hk0,Z3 A1,HX.o,Am.o];exact km8)
        have B8:=Yh (Aw.o.grown g8 Aw.o.size (fun j hj=>by injection hj with hj;rw[<-hj,<-Ar.o];exact Yk _));clear Af hd km8 g8;go_wp2_with fail;go_roundw
        case rel=>exact⟨k+1,by omega,by omega,by go_num,Hx,AC,B8⟩
        case measure=>first|(simp[intOf];done)|(simp[intOf];omega)
      ·have Hn:=@Yh (rightT l=false) (Zm0 A1 (by rw[HX.o];exact Z0a hk0 A1 Ab.o (by rw[At.o];omega)))
       have Az:0<=at0:=by omega
       go_wp2_with fail;clear hwn a0 a1 a2 a3 a4
       go_region_held3 (fun w'=>w'.cell? ⟨wr.heap.size,0,none⟩=some (.int .i64 x.kind)/\w'.cell? ⟨wr.heap.size,1,none⟩=some (.string x.name)/\w'.cell? ⟨wr.heap.size,2,none⟩=some (.int .i64 x.n)/\w'.cell? ⟨wr.heap.size,3,none⟩=some (.slice xw x.words.length xwc)/\w'.cell? ⟨wr.heap.size,4,none⟩=some (.slice xk x.kids.length xkc)/\Below wn.heap.size wn w')
        (first|exact⟨c0,c1',c2',c3,c4,(Y8 _ _).drew⟩|assumption)
        (first|(go_at_call 106;refine(Ak.o _ (ZY (by assumption))).mono ?_;rintro e w' ⟨rfl,bq⟩;have A9:=ZC0 ZL.o (by assumption) bq)|(go_at_call 107;refine(Au.o _ (ZY (by assumption))).mono ?_;rintro e w' ⟨rfl,bq3⟩;have Ad:=ZC0 ZL.o (by assumption) bq3))
       have B2:=Yh (A7.o.trans ((ZY Ad).mono A7.o.size));clear A9 bq Ad bq3 c0 c1' c2' c3 c4;go_wp2_with fail;go_ret2;exact Zd2 Hn.o B2.o
    ·obtain rfl:k=n:=by omega
     have Hy:=Yh (ZT2 (l:=l) (by rw[HN.o];omega) (fun j hj=>A0.o j hj (by rw[<-HN.o];exact hj)));go_wp2_with fail;go_ret2;exact ZNd Hy.o BB.o (by rw[<-Ar.o];exact BW.o.size) HN.o KM.o
def addT(l:List Ty)(t:Ty):List Ty×Int×Int:=
 if 0<=atT l t then(l,atT l t,0)else if madeB l t=false then([],0,1)else if l.length=400 then([],0,7)else(l++[t],(l.length:Int),0)
theorem addr_add(b o j:Nat):(⟨b,o,none⟩:Addr).add j=⟨b,o+j,none⟩:=by unfold Addr.add;split<;>simp_all
theorem cell3A{w:World}{b:Nat}{a0 a1 a2:Value}{T:TypeId}(h:BlockAt w b #[a0,a1,a2] T) :
  w.cell? ⟨b,0,none⟩=some a0/\w.cell? ⟨b,1,none⟩=some a1/\w.cell? ⟨b,2,none⟩=some a2:=⟨h.cell 0,h.cell 1,h.cell 2⟩
theorem ZRa{W wr w1:World}{base:Nat}{v v':Value}{l r:List Tz}{n:Nat}(hn:n=l.length+r.length)(hW:W.heap.size<=base)(ho:OwnZ wr base v l)(hB:Below W.heap.size W wr)
  (h1:w1.ownsRow base 50 5 v' n (tzC l++tzC r)) (hg:wr.grownBy w1 v.ownBlock) :
  OwnZ w1 base v' (l++r)/\Below W.heap.size W w1:=by
 refine⟨?_,hB.grown hg (by have:=hB.size;omega) (fun k hk=>?_)⟩
 ·subst hn
  unfold OwnZ;rw[ZW5,Ye];exact h1
 ·have:=World.ownsRow.lt ho k hk
  omega
theorem Zi0{w:World}{base:Nat}{v:Value}{l:List Tz}(h:OwnZ w base v l){b:Nat}(hb:v.ownBlock≠some b)(j:Nat)(u:Value):OwnZ (w.setCell ⟨b,j,none⟩ u) base v l:=by
 obtain⟨h1,h2⟩:=h;refine⟨h1,?_⟩
 rcases h2 with h2|⟨g,cap,cur,rfl,hg,hcur,rest⟩
 ·exact .inl h2
 ·have A0:g≠b:=fun e=>hb (by rw[e];rfl)
  exact .inr ⟨g,cap,cur,rfl,hg,(show BlockAt (w.setCell ⟨b,j,none⟩ u) g cur _ from BlockAt.other (show BlockAt w g cur _ from hcur) A0 j u),rest⟩
def AddR(w:World)(R:List Ty×Int×Int)(e:Ending)(w':World):Prop:=∃ao cap,e=.returned (.agg #[.slice ao R.1.length cap,.int .i64 R.2.1,.int .i64 R.2.2])/\ARow w' ao R.1/\Below w.heap.size w w'
theorem right_step{l:List Ty}(h:rightT l=true):(22<=l.length/\l.length<=400)/\∀j (hj:j<l.length),stepB l j l[j]=true:=by
 by_cases h0:22<=l.length/\l.length<=400
 ·refine⟨h0,fun j hj=>?_⟩
  cases hs:stepB l j l[j]
  ·rw[Zm0 hj hs]at h;cases h
  ·rfl
 ·rw[ZE0 h0]at h;cases h
theorem Zl{l:List Ty}(h:rightT l=true){j:Nat}(hj:j<l.length)(h22:j<22):l[j]=bas j:=by
 have:=(right_step h).2 j hj;rw[ZY2 hj h22]at this;exact Yf this
theorem Zq{l:List Ty}(h:rightT l=true){j:Nat}(hj:j<l.length)(h22:¬j<22):madeB (l.take j) l[j]=true/\l[j] ∉ l.take j:=by
 have:=(right_step h).2 j hj;unfold stepB at this;rw[if_neg h22,Yd]at this;exact⟨this.1,Yf this.2⟩
theorem ZP5:∀i,i<22->∀j,j<22->bas i=bas j->i=j:=by decide +kernel
theorem ZQ4{l:List Ty}(h:rightT l=true){i j:Nat}(hi:i<l.length)(hj:j<l.length)(e:l[i]=l[j]):i=j:=by
 rcases Nat.lt_trichotomy i j with g|g|g
 ·exfalso
  by_cases hj2:j<22
  ·rw[Zl h hi (by omega),Zl h hj hj2]at e
   have:=ZP5 i (by omega) j hj2 e
   omega
  ·refine(Zq h hj hj2).2 ?_
   rw[<-e,List.mem_take_iff_getElem];exact⟨i,by omega,rfl⟩
 ·exact g
 ·exfalso
  by_cases hi2:i<22
  ·rw[Zl h hi hi2,Zl h hj (by omega)]at e
   have:=ZP5 i hi2 j (by omega) e
   omega
  ·refine(Zq h hi hi2).2 ?_
   rw[e,List.mem_take_iff_getElem];exact⟨j,by omega,rfl⟩
theorem Zc7{l:List Ty}(h:rightT l=true){i:Nat}(hi:i<l.length){t:Ty}(e:l[i]=t):atT l t=(i:Int):=
 Za4 hi e (fun j hj hji ej=>by have:=ZQ4 h hj hi (ej.trans e.symm);omega)
theorem ZSc{l:List Ty}(h:rightT l=true){t:Ty}(hb:0<=atT basics t):atT l t=atT basics t:=by
 have hm:t∈basics:=Y7 fun g=>by have:=atT_neg.2 g;omega
 obtain⟨j,hj,rfl⟩:=List.getElem_of_mem hm;have A0:j<22:=by rw[ZH]at hj;exact hj
 have hl:=(right_step h).1.1;rw[Zc7 h (i:=j) (by omega) ((Zl h (by omega) A0).trans (ZN0 hj).symm)];rw[ZN0 hj];exact(Z48 A0 rfl (fun k hk e=>by have:=ZP5 j A0 k (by omega) e;omega)).symm
theorem Zd5{l:List Ty}(h:rightT l=true){t:Ty}(hb:atT basics t<0)(hno:∀i (hi:i<l.length),22<=i->l[i]≠t):atT l t = -1:=
 Zd4 (fun j hj e=>by
  by_cases hj2:j<22
  ·refine(atT_neg.1 hb) ?_
   rw[<-e,Zl h hj hj2,<-ZN0 (by rw[ZH];exact hj2)];exact Yq _
  ·exact hno j hj (by omega) e)
theorem ZU2{l:List Ty}(h:rightT l=true){j:Nat}(hj:j<l.length)(h22:22<=j):Made l[j]:=Zc1 (Zq h hj (by omega)).1
theorem Ze5(l:List Ty)(ao:Option Addr)(ac:Nat)(w:World)(hl:ARow w ao l)(ll:l.length<=1000)(hac:l.length<=ac)(hE:Env w) :
  Calls Tryz.prog 66 #[.slice ao l.length ac] w fun e w'=>e=.returned (.bool (rightT l))/\Below w.heap.size w w':=by
 have HI:=Yh (Zz6 l ao ac w hl ll hac hE);obtain⟨n,hn⟩:=Yn (l.length);rw[hn]at HI ⊢;clear hn hl ll hac hE;go_enter Tryz.func66,Tryz.ntmps66;go_wp2_with fail;refine HI.o.mono ?_;rintro e w' ⟨mo,rfl,b,-⟩;have B:=Yh b;clear b;go_wp2_with fail;go_ret;exact⟨rfl,B.o⟩
def FindR(p:Int)(w:World)(e:Ending)(w':World):Prop:=
 e=.returned (.tuple #[.int .i64 (if 0<=p then p else 0),.bool (decide (0<=p))])/\Below w.heap.size w w'
theorem ZB7{p:Int}{w w':World}(h:0<=p)(hb:Below w.heap.size w w'):FindR p w (.returned (.tuple #[.int .i64 p,.bool true])) w':=⟨by rw[if_pos h,Yb h],hb⟩
theorem Z29{p:Int}{w w':World}(h:p<0)(hb:Below w.heap.size w w'):FindR p w (.returned (.tuple #[.int .i64 0,.bool false])) w':=⟨by rw[if_neg (by omega),Ya (by omega)],hb⟩
set_option maxRecDepth 100000 in
theorem Zhc(l:List Ty)(ao:Option Addr)(ac:Nat)(mb:Nat)(t:Ty)(wo ko:Option Addr)(wc kc:Nat)(w:World)(hl:ARow w ao l)(hr:rightT l=true)(hac:l.length<=ac)(hE:Env w)(hm:KMap w mb (pairs l l.length))(ht:TyC w wo ko t)(hsm:TySm t)(hwc:t.words.length<=wc)(hkc:t.kids.length<=kc) :
  Calls Tryz.prog 180 #[.slice ao l.length ac,.map (some mb),tyV t wo wc ko kc] w (FindR (atT l t) w):=by
 have A8:=(right_step hr).1;obtain⟨n,hn⟩:=Yn (l.length);have HN:=Yh hn;rw[hn]at A8 hm hac ⊢;have A9:=Yh (Z39 ht.ok hsm);obtain⟨w1,h1,k1,q1,z1⟩:=YA w #[.int .i64 t.kind,.string t.name,.int .i64 t.n,.slice wo t.words.length wc,.slice ko t.kids.length kc] 50;have BW:=Yh q1;have K1:=Yh k1;have HA:=Yh (hl.below q1);have HT:=Yh (ht.below q1);have HE:=Yh (hE.below q1);have KM:=Yh (hm.below q1);have HR:=Yh hr;have A0:=Zg2 t wo ko wc kc w1 HT.o HE.o.basics;obtain⟨bp,hbp⟩:=Yn (atT basics t);rw[hbp]at A0;have A1:=Yh hbp;have A2:=fun W (h:Below w1.heap.size w1 W)=>ZU6 t wo ko wc kc W (HT.o.below h) hsm hwc hkc (HE.o.below h).pow
 have A3:=fun W (h:Below w1.heap.size w1 W) (x:Ty) (xw xk:Option Addr) (xwc xkc:Nat) (hx:TyC W xw xk x)=>ZA6 x t xw xk wo ko xwc xkc wc kc W hx (HT.o.below h)
 unfold tyV at A0 A2 A3 ⊢;have Ac:=Yh A0;have Ad:=Yh A2;have Ai:=Yh A3;obtain⟨c0,c1,c2,c3,c4⟩:=cell5 k1;clear hn hl hr hE hm ht hwc hkc k1 q1 z1 A0 A2 A3 hbp
 by_cases hpos:0<=bp
 ·have Hp:=@Yh (atT l t=bp) (by rw[ZSc HR.o (by rw[A1.o];exact hpos),A1.o])
  go_enter Tryz.func180,Tryz.ntmps180;go_wp2_with fail;refine Ac.o.mono ?_;rintro e w2 ⟨rfl,b2⟩;have B2:=YT BW b2;clear b2 c0 c1 c2 c3 c4 h1;go_wp2_with fail;go_ret2;rw[Hp.o];exact ZB7 hpos B2.o
 have A4:bp<0:=by omega
 obtain⟨ky,hky⟩:=Yn (keyT t);rw[hky]at Ad A9;have Ae:=Yh hky;clear hky;have A5:∀(w3:World),True:=fun _=>trivial
 clear A5;go_enter Tryz.func180,Tryz.ntmps180;go_wp2_with fail;refine Ac.o.mono ?_;rintro e w2 ⟨rfl,b2⟩;have B2:=Yh b2;clear b2 c0 c1 c2 c3 c4 h1;obtain⟨c0,c1,c2,c3,c4⟩:=cell5 (K1.o.below B2.o);go_wp2_with fail;refine(Ad.o w2 B2.o).mono ?_;rintro e w3 ⟨rfl,b3⟩;unfold keyV;have B3:=YT B2 b3;have BE:=YT BW B3.o;have Af:=Yh (KM.o.below B3.o);clear b3 c0 c1 c2 c3 c4;obtain⟨c0,c1,c2,c3,c4⟩:=cell5 (K1.o.below B3.o)
 by_cases hd:∃p∈pairs l n,p.1=ky
 ·obtain⟨p,hp,he⟩:=hd
  obtain⟨i,hi1,hi2,rfl⟩:=Zo6 hp;have A7:i<l.length:=by rw[HN.o];exact hi2
  have he:keyT (l.getD i noT)=ky:=he;rw[he]at hp;have A6:=Af.o.hit A9.o hp;unfold keyV at A6;obtain⟨ab,aof,rfl,hab,hcl⟩:=(HA.o.below B3.o).cells (by omega);have Ag:=hcl i A7;obtain⟨x,hx⟩:=Yn (l[i]);rw[hx]at Ag;rw[Z3 A7,hx]at he;have HX:=Yh hx;have Aj:=Yh he;obtain⟨xw,xwc,xk,xkc,a0,a1,a2,a3,a4,-,-,hxc⟩:=Ag;have Ah:=fun W (h:Below w3.heap.size w3 W)=>Ai.o W (YU B3 h) x xw xk xwc xkc (hxc.below h)
  have HS:=Yh Ah;clear hp he hx hcl hab hxc Ah
  by_cases hxt:x=t
  ·have Aa:=Yh (fun W h=>by have:=HS.o W h;rw[Yb hxt]at this;exact this)
   have Hp:=Yh (Zc7 HR.o A7 (HX.o.trans hxt));clear hxt HS;go_wp2_with fail;go_still_tail 8,(by kernel_rfl);clear c0 c1 c2 c3 c4 a0 a1 a2 a3 a4 A6
   change wpList _ _ _ _ _ w3.drew
   have BD:=@Yh (Below w3.heap.size w3 w3.drew) ((Y8 _ _).drew)
   generalize w3.drew=w4 at *
   go_wp2_with fail;refine(Aa.o _ BD.o).mono ?_;rintro e w5 ⟨rfl,b5⟩;have B5:=Yh (BE.o.trans ((YU BD b5).mono BE.o.size));clear b5;go_wp2_with fail;go_ret2;rw[Hp.o];exact ZB7 (by omega) B5.o
  ·have Aa:=Yh (fun W h=>by have:=HS.o W h;rw[Ya hxt]at this;exact this)
   have Hp:=Yh (show atT l t = -1 from Zd5 HR.o (by rw[A1.o];exact A4) (fun j hj hj22 ej=>hxt (by
    have e1:keyT l[j]=keyT l[i]:=by rw[ej,Ae.o,HX.o,Aj.o]
    have e2:=Zh8 (ZU2 HR.o hj hj22) (ZU2 HR.o A7 hi1) e1;rw[<-HX.o,<-e2,ej])))
   clear hxt HS;go_wp2_with fail;go_still_tail 8,(by kernel_rfl);clear c0 c1 c2 c3 c4 a0 a1 a2 a3 a4 A6
   change wpList _ _ _ _ _ w3.drew
   have BD:=@Yh (Below w3.heap.size w3 w3.drew) ((Y8 _ _).drew)
   generalize w3.drew=w4 at *
   go_wp2_with fail;refine(Aa.o _ BD.o).mono ?_;rintro e w5 ⟨rfl,b5⟩;have B5:=Yh (BE.o.trans ((YU BD b5).mono BE.o.size));clear b5;go_wp2_with fail;go_ret2;rw[Hp.o];exact Z29 (by decide) B5.o
 ·have Ab:∀p∈pairs l n,p.1≠ky:=fun p hp g=>hd ⟨p,hp,g⟩
  have A6:=Af.o.miss A9.o Ab;unfold keyV at A6
  have Hp:=Yh (show atT l t = -1 from Zd5 HR.o (by rw[A1.o];exact A4) (fun j hj hj22 ej=>by
   have hp:=ZO6 (l:=l) (k:=n) (i:=j) hj22 (by rw[<-HN.o];exact hj);rw[Z3 hj,ej,Ae.o]at hp;exact Ab _ hp rfl))
  clear Ab hd;go_wp2_with fail;go_quiet (fail)
  rename_i nq
  have BQ:=Yh (below_drewN BE.o nq);go_wp2_with fail;go_ret2;rw[Hp.o];exact Z29 (by decide) BQ.o
theorem Zm8(w:World)(a:Option Addr)(n c:Nat):(binOp .eql 42 (.slice a n c) (.slice none 0 0)).run Tryz.prog w=.ok (.bool a.isNone) w:=by
 simp only[binOp];simp[Op.equal,Op.maxDepth,Lib.run_equalIn_slice_nil w 9999 42 9 a n c 0 0 Tryz.underlying42]
theorem Zmb:(Tryz.prog.info? 9).map (fun i=>(i.zero,i.size,i.bytes))=some (some (.string ⟨#[]⟩),1,16):=by kernel_rfl
theorem Zwc{w:World}{base:Nat}{v:Value}{zs:List ByteArray}(h:w.ownsRow base 9 1 v zs.length (zs.map Value.string)):∃ao cap,v=.slice ao zs.length cap/\SRow w ao zs/\zs.length<=cap/\∀a,ao=some a->base<=a.block:=by
 have hc:=fun g hg=>h.cells (g:=g) hg
 obtain⟨h1,h2⟩:=h
 rcases h2 with⟨rfl,h0⟩|⟨g,cap,cur,rfl,hg,hcur,hcap1,hcap2,hcs,htk⟩
 ·exact⟨none,0,by rw[h0],.inl (Yp h0),by rw[h0];exact Yk _,fun a h=>by cases h⟩
 ·refine⟨_,_,rfl,.inr ⟨g,0,rfl,(Yy.1 hcur).1,fun i hi=>?_⟩,hcap1,fun a h=>by(injection h with h;subst h;exact hg)⟩
  have:=hc g rfl i _ (by rw[List.getElem?_map,Yv hi];rfl);have A0:(⟨g,0,none⟩:Addr).add i=⟨g,i,none⟩:=by unfold Addr.add;split<;>simp_all
  rw[A0]at this;rw[Nat.zero_add,this,Z3 hi]
theorem ZG{w:World}{ao:Option Addr}{zs:List ByteArray}{b k:Nat}{v:Value}(h:SRow w ao zs)(hn:∀a,ao=some a->a.block≠b):SRow (w.setCell ⟨b,k,none⟩ v) ao zs:=by
 rcases h with h|⟨c,off,rfl,h2,h3⟩
 ·exact .inl h
 ·have hc:c≠b:=hn _ rfl
  refine .inr ⟨c,off,rfl,by simpa [World.setCell] using h2,fun i hi=>?_⟩;rw[<-h3 i hi];exact World.cell?_of_block (a:=⟨c,off+i,none⟩) (Y9 _ _ _ _ hc)
def Clonestr(zs:List ByteArray)(w:World)(e:Ending)(w':World):Prop:=∃ao cap,e=.returned (.slice ao zs.length cap)/\SRow w' ao zs/\zs.length<=cap/\(∀a,ao=some a->w.heap.size<=a.block)/\Below w.heap.size w w'
set_option maxRecDepth 100000 in
theorem Zla(ao:Option Addr)(c:Nat)(zs:List ByteArray)(w:World)(hr:SRow w ao zs)(hl:zs.length<=1000) :
  Calls Tryz.prog 181 #[.slice ao zs.length c] w (Clonestr zs w):=by
 cases ao with
 | none =>
  have hz:zs=[]:=by
   rcases hr with h|⟨b,off,h,-⟩
   ·exact h
   ·cases h
  subst hz;have A1:=fun W=>Zm8 W none 0 c
  simp only[Option.isNone_none]at A1;go_enter Tryz.func181,Tryz.ntmps181;go_wp2_with fail;go_ret;exact⟨none,0,rfl,.inl rfl,Yk _,(fun a h=>by cases h),Y8 _ _⟩
 | some ad =>
  obtain⟨i0,hi,hz0,hz1,hz2⟩:=info_parts Zmb;have HR:=Yh hr;have O0:=@Yh ((w.alloc (.cells #[] 9)).ownsRow w.heap.size 9 1 (.slice (some ⟨w.heap.size,0,none⟩) 0 0) 0 []) (World.ownsRow_made w #[] 0 (Yk _) (by unfold maxLen;omega) rfl);have B0:=@Yh (Below w.heap.size w (w.alloc (.cells #[] 9))) ((Y8 _ _).alloc (Yk _) _);obtain⟨n,hn⟩:=Yn (zs.length);have HN:=Yh hn
  have HC:=Yh (show ∀j u,(zs.map Value.string)[j]? = some u->(w.alloc (.cells #[] 9)).cell? (ad.add j)=some u from fun j u hu=>by
   obtain⟨hj,rfl⟩:=YI.1 hu;rw[Yg]at hj;obtain⟨b,off,e,hb,hc⟩:=HR.o.cells (by omega)
   injection e with e
   subst e;have A2:(⟨b,off,none⟩:Addr).add j=⟨b,off+j,none⟩:=by unfold Addr.add;split<;>simp_all
   rw[A2,B0.o.cell (p:=⟨b,off+j,none⟩) hb,hc j hj,List.getElem_map,Z3 hj])
  rw[hn]at hl ⊢;clear hr hn;have A1:=fun W=>Zm8 W (some ad) n c
  simp only[Option.isNone_some]at A1;go_enter Tryz.func181,Tryz.ntmps181;go_wp2_with (at_builtin;refine wpList_append_own_at _ rfl _ _ 42 rfl w.heap.size 9 i0 (.string ⟨#[]⟩) 1 16 Tryz.underlying42 hi hz0 hz1 hz2 rfl (by decide) _ 0 [] rfl O0.o ad n c (zs.map Value.string) rfl ?c1 ?c2 ?c3 ?c4 ?c5 ?c6 ?_)
  case c1=>rw[Yg,HN.o,Nat.mul_one]
  case c2=>exact HC.o
  case c3=>intro u hu;obtain⟨x,_,rfl⟩:=Y4.1 hu;rfl
  case c4=>unfold maxLen;omega
  case c5=>omega
  case c6=>exact B0.o.size
  intro v' w1 hown hgrow _ _;have B1:=Yh (B0.o.grown hgrow B0.o.size (fun k hk=>(O0.o.lt k hk).1))
  have A0:w1.ownsRow w.heap.size 9 1 v' zs.length (zs.map Value.string):=by
   rw[HN.o]
   simpa using hown
  obtain⟨ao',cap',rfl,hr',hc',hn'⟩:=Zwc A0;have HX:=Yh (YH hr' (YH hc' hn'));clear hown A0 hgrow hr' hc' hn';rw[HN.o];go_wp2_with fail;go_ret;exact⟨ao',cap',by(rw[HN.o];rfl),HX.o.1,HX.o.2.1,HX.o.2.2,B1.o⟩
theorem ZJ2(w:World)(a:Option Addr)(n c:Nat):(binOp .eql 26 (.slice a n c) (.slice none 0 0)).run Tryz.prog w=.ok (.bool a.isNone) w:=by
 simp only[binOp];simp[Op.equal,Op.maxDepth,Lib.run_equalIn_slice_nil w 9999 26 3 a n c 0 0 Tryz.underlying26]
theorem ZI0:(Tryz.prog.info? 3).map (fun i=>(i.zero,i.size,i.bytes))=some (some (.int .i64 0),1,8):=by kernel_rfl
theorem Z4c{w:World}{base:Nat}{v:Value}{zs:List Int}(h:w.ownsRow base 3 1 v zs.length (zs.map (Value.int .i64))):∃ao cap,v=.slice ao zs.length cap/\IRow w ao zs/\zs.length<=cap/\∀a,ao=some a->base<=a.block:=by
 have hc:=fun g hg=>h.cells (g:=g) hg
 obtain⟨h1,h2⟩:=h
 rcases h2 with⟨rfl,h0⟩|⟨g,cap,cur,rfl,hg,hcur,hcap1,hcap2,hcs,htk⟩
 ·exact⟨none,0,by rw[h0],.inl (Yp h0),by rw[h0];exact Yk _,fun a h=>by cases h⟩
 ·refine⟨_,_,rfl,.inr ⟨g,0,rfl,(Yy.1 hcur).1,fun i hi=>?_⟩,hcap1,fun a h=>by(injection h with h;subst h;exact hg)⟩
  have:=hc g rfl i _ (by rw[List.getElem?_map,Yv hi];rfl);have A0:(⟨g,0,none⟩:Addr).add i=⟨g,i,none⟩:=by unfold Addr.add;split<;>simp_all
  rw[A0]at this;rw[Nat.zero_add,this,Z3 hi]
theorem ZB{w:World}{ao:Option Addr}{zs:List Int}{b k:Nat}{v:Value}(h:IRow w ao zs)(hn:∀a,ao=some a->a.block≠b):IRow (w.setCell ⟨b,k,none⟩ v) ao zs:=by
 rcases h with h|⟨c,off,rfl,h2,h3⟩
 ·exact .inl h
 ·have hc:c≠b:=hn _ rfl
  refine .inr ⟨c,off,rfl,by simpa [World.setCell] using h2,fun i hi=>?_⟩;rw[<-h3 i hi];exact World.cell?_of_block (a:=⟨c,off+i,none⟩) (Y9 _ _ _ _ hc)
def Cloneint(zs:List Int)(w:World)(e:Ending)(w':World):Prop:=∃ao cap,e=.returned (.slice ao zs.length cap)/\IRow w' ao zs/\zs.length<=cap/\(∀a,ao=some a->w.heap.size<=a.block)/\Below w.heap.size w w'
set_option maxRecDepth 100000 in
theorem ZAb(ao:Option Addr)(c:Nat)(zs:List Int)(w:World)(hr:IRow w ao zs)(hl:zs.length<=1000) :
  Calls Tryz.prog 72 #[.slice ao zs.length c] w (Cloneint zs w):=by
 cases ao with
 | none =>
  have hz:zs=[]:=by
   rcases hr with h|⟨b,off,h,-⟩
   ·exact h
   ·cases h
  subst hz;have A1:=fun W=>ZJ2 W none 0 c
  simp only[Option.isNone_none]at A1;go_enter Tryz.func72,Tryz.ntmps72;go_wp2_with fail;go_ret;exact⟨none,0,rfl,.inl rfl,Yk _,(fun a h=>by cases h),Y8 _ _⟩
 | some ad =>
  obtain⟨i0,hi,hz0,hz1,hz2⟩:=info_parts ZI0;have HR:=Yh hr;have O0:=@Yh ((w.alloc (.cells #[] 3)).ownsRow w.heap.size 3 1 (.slice (some ⟨w.heap.size,0,none⟩) 0 0) 0 []) (World.ownsRow_made w #[] 0 (Yk _) (by unfold maxLen;omega) rfl);have B0:=@Yh (Below w.heap.size w (w.alloc (.cells #[] 3))) ((Y8 _ _).alloc (Yk _) _);obtain⟨n,hn⟩:=Yn (zs.length);have HN:=Yh hn
  have HC:=Yh (show ∀j u,(zs.map (Value.int .i64))[j]? = some u->(w.alloc (.cells #[] 3)).cell? (ad.add j)=some u from fun j u hu=>by
   obtain⟨hj,rfl⟩:=YI.1 hu;rw[Yg]at hj;obtain⟨b,off,e,hb,hc⟩:=HR.o.cells (by omega)
   injection e with e
   subst e;have A2:(⟨b,off,none⟩:Addr).add j=⟨b,off+j,none⟩:=by unfold Addr.add;split<;>simp_all
   rw[A2,B0.o.cell (p:=⟨b,off+j,none⟩) hb,hc j hj,List.getElem_map,Z3 hj])
  rw[hn]at hl ⊢;clear hr hn;have A1:=fun W=>ZJ2 W (some ad) n c
  simp only[Option.isNone_some]at A1;go_enter Tryz.func72,Tryz.ntmps72;go_wp2_with (at_builtin;refine wpList_append_own_at _ rfl _ _ 26 rfl w.heap.size 3 i0 (.int .i64 0) 1 8 Tryz.underlying26 hi hz0 hz1 hz2 rfl (by decide) _ 0 [] rfl O0.o ad n c (zs.map (Value.int .i64)) rfl ?c1 ?c2 ?c3 ?c4 ?c5 ?c6 ?_)
  case c1=>rw[Yg,HN.o,Nat.mul_one]
  case c2=>exact HC.o
  case c3=>intro u hu;obtain⟨x,_,rfl⟩:=Y4.1 hu;rfl
  case c4=>unfold maxLen;omega
  case c5=>omega
  case c6=>exact B0.o.size
  intro v' w1 hown hgrow _ _;have B1:=Yh (B0.o.grown hgrow B0.o.size (fun k hk=>(O0.o.lt k hk).1))
  have A0:w1.ownsRow w.heap.size 3 1 v' zs.length (zs.map (Value.int .i64)):=by
   rw[HN.o]
   simpa using hown
  obtain⟨ao',cap',rfl,hr',hc',hn'⟩:=Z4c A0;have HX:=Yh (YH hr' (YH hc' hn'));clear hown A0 hgrow hr' hc' hn';rw[HN.o];go_wp2_with fail;go_ret;exact⟨ao',cap',by(rw[HN.o];rfl),HX.o.1,HX.o.2.1,HX.o.2.2,B1.o⟩
theorem Zxc(b off n c:Nat)(w:World)(hn:n<=1000)(hc:n<=c) :
  Calls Tryz.prog 182 #[.slice (some ⟨b,off,none⟩) n c] w fun e w'=>e=.returned (.slice (some ⟨b,off,none⟩) n n)/\w'=w:=by
 by_cases h0:n=0
 ·subst h0
  go_enter Tryz.func182,Tryz.ntmps182;go_wp2_with fail;go_ret;exact⟨rfl,rfl⟩
 ·have h1:¬(n=0):=h0
  go_enter Tryz.func182,Tryz.ntmps182;go_wp2_with fail;go_ret;exact⟨by simp[h0],rfl⟩
theorem Zb{P:Program}{o:Oper}{a:Act}{w w':World}{K:Act->World->Prop}{Q:Exit->Act->World->Prop}(s x:Operand)(t:TypeId)
  (ho:o.op=.call { callee:=.builtin .append,args:=#[s,x],argTypes:=#[t,t] }) (vs vx v':Value) (hs:a.eval s=vs) (hx:a.eval x=vx) (hr:(Builtin.append_ #[t,t] o.type #[vs,vx]).run P w=.ok v' w') (h:K (a.put o.dst v') w'):o.wp P a w K Q:=by
 unfold Oper.wp execOp;simp only[ho,resolve,invoke,builtin,Sem.run_bind,Sem.run_pure,Result.andThen_ok,List.map_toArray,List.map_cons,List.map_nil,hs,hx,hr];exact h
def paddT(l:List Ty)(t:Ty):List Ty×Int×Int:=if rightT l=true then addT l t else([],0,1)
theorem ZQ9{l:List Ty}{t:Ty}(h:rightT l=false):paddT l t=([],0,1):=by unfold paddT;rw[h];rfl
theorem ZM9{l:List Ty}{t:Ty}(h:rightT l=true)(hp:0<=atT l t):paddT l t=(l,atT l t,0):=by unfold paddT addT;rw[if_pos h,if_pos hp]
theorem ZLc{l:List Ty}{t:Ty}(h:rightT l=true)(hp:atT l t<0)(hm:madeB l t=false):paddT l t=([],0,1):=by unfold paddT addT;rw[if_pos h,if_neg (by omega),if_pos hm]
theorem ZOb{l:List Ty}{t:Ty}(h:rightT l=true)(hp:atT l t<0)(hm:madeB l t=true)(hn:l.length=400):paddT l t=([],0,7):=by unfold paddT addT;rw[if_pos h,if_neg (by omega),if_neg (by rw[hm];decide),if_pos hn]
theorem Zuc{l:List Ty}{t:Ty}(h:rightT l=true)(hp:atT l t<0)(hm:madeB l t=true)(hn:¬l.length=400):paddT l t=(l++[t],(l.length:Int),0):=by unfold paddT addT;rw[if_pos h,if_neg (by omega),if_neg (by rw[hm];decide),if_neg hn]
def PAddR(w:World)(R:List Ty×Int×Int)(e:Ending)(w':World):Prop:=∃ao cap,e=.returned (.tuple #[.slice ao R.1.length cap,.int .i64 R.2.1,.int .i64 R.2.2])/\ARow w' ao R.1/\R.1.length<=cap/\Below w.heap.size w w'
def itoaS(n:Int):ByteArray:=⟨(Lib.itoa n).toArray⟩
def partF(w k:ByteArray):ByteArray:=w++⟨(Lib.trimPrefix k.data.toList [102,117,110,99]).toArray⟩
def methodsF(t:Ty)(ks:List ByteArray):List ByteArray:=(if t.n % 2=1 then[⟨#[99,111,109,112,97,114,97,98,108,101]⟩]else[])++((t.words.zip ks).filter (fun p=>!markB p.1)).map (fun p=>partF p.1 p.2)
def termsF(t:Ty)(ks:List ByteArray):List ByteArray:=((t.words.zip ks).filter (fun p=>markB p.1)).map (fun p=>if p.1.toList=[61]then p.2 else p.1++p.2)
def partsF(t:Ty)(ks:List ByteArray):List ByteArray:=
 if t.n<2 then methodsF t ks else if termsF t ks=[]then methodsF t ks++[⟨#[110,111,110,101]⟩]else methodsF t ks++[joinT (termsF t ks) ⟨#[32,124,32]⟩]
def textF(t:Ty)(ks:List ByteArray):ByteArray:=
 if t.kind=1 then⟨#[42]⟩++ks.getD 0 ⟨#[]⟩
 else if t.kind=2 then⟨#[91,93]⟩++ks.getD 0 ⟨#[]⟩
 else if t.kind=3 then((⟨#[91]⟩++itoaS t.n)++⟨#[93]⟩)++ks.getD 0 ⟨#[]⟩
 else if t.kind=4 then((⟨#[109,97,112,91]⟩++ks.getD 0 ⟨#[]⟩)++⟨#[93]⟩)++ks.getD 1 ⟨#[]⟩
 else if t.kind=5 then joinT (((⟨#[102,117,110,99,40]⟩++joinT (ks.take (ks.length-t.n.toNat)) ⟨#[44,32]⟩)++⟨#[41]⟩)::ks.drop (ks.length-t.n.toNat)) ⟨#[32]⟩
 else if t.kind=6 then(⟨#[115,116,114,117,99,116,123]⟩++joinT (List.zipWith (fun w k=>(w++⟨#[32]⟩)++k) t.words ks) ⟨#[59,32]⟩)++⟨#[125]⟩
 else if t.kind=7 then(⟨#[105,110,116,101,114,102,97,99,101,123]⟩++joinT (partsF t ks) ⟨#[59,32]⟩)++⟨#[125]⟩
 else if t.kind=9 then⟨#[35]⟩++itoaS t.n
 else if 0<ks.length then((t.name++⟨#[91]⟩)++joinT ks ⟨#[44,32]⟩)++⟨#[93]⟩
 else t.name
def kidsT(T:Nat->ByteArray)(t:Ty):List ByteArray:=t.kids.map fun k=>T k.toNat
def kmark(nd:Nat->Bool)(j:Nat)(ks:List Int):Nat->Bool:=fun m=>nd m||(nd j&&decide ((m:Int)∈ks))
def needD(f:Nat->Ty)(i:Nat):Nat->Nat->Bool
 | 0=>fun m=>decide (m=i)
 | c+1=>kmark (needD f i c) (i-c) (f (i-c)).kids
theorem ZQ6(nd:Nat->Bool)(j:Nat):kmark nd j []=nd:=by
 funext m
 unfold kmark;simp
theorem Z35(nd:Nat->Bool)(j:Nat)(ks:List Int):kmark nd j ks j=nd j:=by
 unfold kmark
 cases nd j<;>simp
theorem Zq5{nd:Nat->Bool}{j:Nat}{ks:List Int}{q z:Nat}(hq:q<ks.length)(hz:ks.getD q 0=(z:Int))(hzj:z≠j) :
  (fun m=>if m=z then(kmark nd j (ks.take q) z||kmark nd j (ks.take q) j)else kmark nd j (ks.take q) m)=kmark nd j (ks.take (q+1)):=by
 funext m
 rw[Z35]
 have e:ks.take (q+1)=ks.take q++[(z:Int)]:=by
  rw[List.take_succ_eq_append_getElem hq,<-hz,Z3 hq]
 rw[e]
 by_cases hm:m=z
 ·subst hm
  rw[if_pos rfl];unfold kmark
  cases nd m<;>cases nd j<;>simp
 ·rw[if_neg hm]
  unfold kmark
  have:((m:Int)∈ks.take q++[(z:Int)])↔(m:Int)∈ks.take q:=by
   rw[Yz,Yo]
   constructor
   ·rintro(h|h)
    ·exact h
    ·exact absurd (by omega) hm
   ·exact .inl
  simp only[this]
theorem Zb1(f:Nat->Ty)(i:Nat):∀c,needD f i c i=true
 | 0=>by simp[needD]
 | c+1=>by
  show kmark (needD f i c) (i-c) (f (i-c)).kids i=true
  unfold kmark;rw[Zb1 f i c]
  rfl
def runF(f:Nat->Ty)(nd:Nat->Bool):Nat->Option (Nat->ByteArray)
 | 0=>some fun _=>⟨#[]⟩
 | j+1=>match runF f nd j with
  | none=>none
  | some T=>if nd j=true then(if 4000<(textF (f j) (kidsT T (f j))).size then none else some fun m=>if m=j then textF (f j) (kidsT T (f j))else T m)else some T
def outF(f:Nat->Ty)(i:Nat):ByteArray×Int:=match runF f (needD f i (i+1)) (i+1)with
 | none=>(⟨#[]⟩,7)
 | some T=>(T i,0)
def rowS(L:Nat)(f:Nat->ByteArray):Array Value:=((List.range L).map fun j=>Value.string (f j)).toArray
def rowB(L:Nat)(f:Nat->Bool):Array Value:=((List.range L).map fun j=>Value.bool (f j)).toArray
theorem Zk1{L:Nat}{f:Nat->Bool}{j:Nat}(h:j<L):(rowB L f)[j]? = some (.bool (f j)):=by unfold rowB;simp[h]
theorem Zg3{L:Nat}{f:Nat->Bool}:(rowB L f).size=L:=by simp[rowB]
theorem Zw2{L:Nat}{f:Nat->Bool}{k:Nat}{d:Bool}:(rowB L f).setIfInBounds k (.bool d)=rowB L fun j=>if j=k then d else f j:=by
 apply Array.ext_getElem?
 intro j
 by_cases hj:j<L
 ·rw[Zk1 hj]
  by_cases hk:k=j
  ·subst hk
   rw[Array.getElem?_setIfInBounds_self_of_lt (by rw[Zg3];exact hj)];simp
  ·rw[Array.getElem?_setIfInBounds_ne hk,Zk1 hj,if_neg (fun e=>hk e.symm)]
 ·rw[Array.getElem?_eq_none (by rw[Array.size_setIfInBounds,Zg3];omega),Array.getElem?_eq_none (by rw[Zg3];omega)]
theorem ZQa(n:Nat):madeCells #[.bool false] n=rowB n fun _=>false:=by
 apply Array.toList_inj.1
 rw[toList_madeCells_one];unfold rowB;simp[List.map_const']
theorem Zo5:(Tryz.prog.info? 4).map (fun i=>(i.zero,i.size,i.bytes))=some (some (.bool false),1,1):=by kernel_rfl
theorem ZQ8(n:Nat)(hn:n<=1000000)(w:World) :
  (Instr.makeSlice 174 (.int .i64 (n:Int)) (.int .i64 (n:Int))).run Tryz.prog w=.ok (.slice (some ⟨w.heap.size,0,none⟩) n n) (w.alloc (.cells (rowB n fun _=>false) 4)):=by
 rw[<-ZQa];exact run_make_row' 174 4 (.bool false) 1 Tryz.underlying174 Zo5 rfl .i64 .i64 n (by omega) (by omega) w
theorem Zn{l:List Ty}(h:rightT l=true){j:Nat}(hj:j<l.length):∀k∈(l[j]).kids,0<=k/\k<(j:Int):=by
 intro k hk
 by_cases h22:j<22
 ·rw[Zl h hj h22]at hk
  unfold bas at hk
  split at hk<;>cases hk
 ·have hm:=(Zq h hj h22).1
  unfold madeB at hm;rw[Yd]at hm;have:=ZG2 hm.1 k hk;rw[Y5]at this
  omega
theorem ZJ{W w:World}{b k:Nat}{v:Value}(h:Below W.heap.size W w)(hb:W.heap.size<=b):Below W.heap.size W (w.setCell ⟨b,k,none⟩ v):=h.setCell hb v
theorem Z1a(f:Nat->Ty)(i L:Nat):(rowB L fun _=>false).setIfInBounds i (.bool true)=rowB L (needD f i 0):=by
 rw[Zw2]
 congr 1
def TextR(f:Nat->Ty)(i:Nat)(w:World)(e:Ending)(w':World):Prop:=e=.returned (.tuple #[.string (outF f i).1,.int .i64 (outF f i).2])/\Below w.heap.size w w'
def KF(K:List ByteArray)(q:Nat):Nat->ByteArray:=fun j=>if j<q then K.getD j ⟨#[]⟩else⟨#[]⟩
end Go.Proofs.YtdcajkagakikiaaGreatDoor
