import Derived.Test.YtdcajkagakikiaaGreatDoorQ07
namespace Go.Proofs.YtdcajkagakikiaaGreatDoor
set_option maxHeartbeats 64000000
set_option linter.unusedSimpArgs false
set_option linter.unusedVariables false
open Go.RowKit
theorem Zdd:(Tryz.prog.info? 229).map (fun i=>(i.zero,i.size,i.bytes))=some (some (.agg #[.string ⟨#[]⟩,.int .i64 0]),2,24):=by kernel_rfl
theorem Zu6:(Tryz.prog.info? 9).map (fun i=>(i.zero,i.size,i.bytes))=some (some (.string ⟨#[]⟩),1,16):=by kernel_rfl
theorem Zc3:(Tryz.prog.info? 3).map (fun i=>(i.zero,i.size,i.bytes))=some (some (.int .i64 0),1,8):=by kernel_rfl
theorem Zr{w:World}{b:Nat}{x:Value}{T:TypeId}(h:BlockAt w b #[x] T):∀j u,[x][j]? = some u->w.cell? ((⟨b,0,none⟩:Addr).add j)=some u:=by
 intro j u hu;have A0:(⟨b,0,none⟩:Addr).add j=⟨b,j,none⟩:=by unfold Addr.add;split<;>simp_all
 rw[A0,h.cell j]
 simpa using hu
theorem Zz{w w':World}{v:Value}{b:Nat}{cs:Array Value}{T:TypeId}(h:BlockAt w b cs T)(hn:v.ownBlock≠some b)(hg:w.grownBy w' v.ownBlock):BlockAt w' b cs T:=by
 have:w'.heap[b]? = w.heap[b]?:=hg.block b h.lt (fun e=>hn e.symm);unfold BlockAt;rw[this];exact h
def msQ(ps:List (ByteArray×Int))(q:Nat):List Tm:=marksB (ps.take q)
def wsQ(ps:List (ByteArray×Int))(q:Nat):List ByteArray:=((ps.take q).filter fun p=>!markB p.1).map (·.1)
def ksQ(ps:List (ByteArray×Int))(q:Nat):List Int:=((ps.take q).filter fun p=>!markB p.1).map (·.2)
theorem q_len(ps:List (ByteArray×Int))(q:Nat):(msQ ps q).length<=q/\(wsQ ps q).length<=q/\(ksQ ps q).length<=q:=by
 unfold msQ wsQ ksQ marksB;rw[Yg,Yg,Yg];have h1:=List.length_filter_le (fun p:ByteArray×Int=>markB p.1) (ps.take q);have h2:=List.length_filter_le (fun p:ByteArray×Int=>!markB p.1) (ps.take q);rw[Y5]at h1 h2
 omega
theorem ZL2{ws:List ByteArray}{ks:List Int}{m q:Nat}(h1:ws.length=m)(h2:ks.length=m)(hq:q<m):(ws.zip ks).take (q+1)=(ws.zip ks).take q++[(ws.getD q ⟨#[]⟩,ks.getD q 0)]:=by
 rw[List.take_succ_eq_append_getElem (by rw[List.length_zip];omega),List.getElem_zip,Z3 (by omega),Z3 (by omega)]
theorem Zzb{ws:List ByteArray}{ks:List Int}{m q:Nat}(h1:ws.length=m)(h2:ks.length=m)(hq:q<m)(hm:markB (ws.getD q ⟨#[]⟩)=true) :
  msQ (ws.zip ks) (q+1)=msQ (ws.zip ks) q++[(decide (ws.getD q ⟨#[]⟩=tiW),ks.getD q 0)]/\wsQ (ws.zip ks) (q+1)=wsQ (ws.zip ks) q/\ksQ (ws.zip ks) (q+1)=ksQ (ws.zip ks) q:=by
 unfold msQ wsQ ksQ marksB;rw[ZL2 h1 h2 hq,List.filter_append,List.filter_append,Yu,Yu,Yu];simp only[List.filter_cons,List.filter_nil,hm];simp
theorem Zd9{ws:List ByteArray}{ks:List Int}{m q:Nat}(h1:ws.length=m)(h2:ks.length=m)(hq:q<m)(hm:markB (ws.getD q ⟨#[]⟩)=false) :
  msQ (ws.zip ks) (q+1)=msQ (ws.zip ks) q/\wsQ (ws.zip ks) (q+1)=wsQ (ws.zip ks) q++[ws.getD q ⟨#[]⟩]/\ksQ (ws.zip ks) (q+1)=ksQ (ws.zip ks) q++[ks.getD q 0]:=by
 unfold msQ wsQ ksQ marksB;rw[ZL2 h1 h2 hq,List.filter_append,List.filter_append,Yu,Yu,Yu];simp only[List.filter_cons,List.filter_nil,hm];simp
theorem Zod{W w:World}{mb:Nat}{t:Ty}{bw bk wv kv:Value}{vo:Option Addr}{vc:Nat}{ms:List Tm}{ws:List ByteArray}{ks:List Int}(h:TS W w mb t bw bk (.slice vo ms.length vc) wv kv ms ws ks)(hl:ms.length<=1000) :
  Calls Tryz.prog 175 #[.slice vo ms.length vc,.func (.func 176) #[] #[]] w fun e w'=>e=.returned (.tuple #[])/\TS W w' mb t bw bk (.slice vo ms.length vc) wv kv (sortT ms) ws ks:=by
 have ht:w.ownsRow W.heap.size 229 2 (.slice vo ms.length vc) ms.length (tmC ms):=h.tm
 rcases ht.2 with⟨h1,h2⟩|⟨g,cap,cur,hv,rest⟩
 ·have e:ms=[]:=Yp h2
  subst e
  injection h1 with e1 e2 e3
  subst e1;subst e3;refine(ZZa w).mono ?_;rintro e w' ⟨rfl,rfl⟩;exact⟨rfl,by rw[show sortT []=[]from by unfold sortT;simp];exact h⟩
 ·injection hv with e1 e2 e3
  subst e1;subst e3;refine(ZCb ms g vc W.heap.size w h.tm hl).mono ?_;rintro e w' ⟨rfl,hg,ho⟩;exact⟨rfl,h.sort rfl hg ho⟩
def AnyTS(W:World)(mb:Nat)(t:Ty)(w:World):Prop:=∃bw bk vt wv kv ms ws ks,TS W w mb t bw bk vt wv kv ms ws ks
theorem TS.any{W w:World}{mb:Nat}{t:Ty}{bw bk vt wv kv:Value}{ms:List Tm}{ws:List ByteArray}{ks:List Int}(h:TS W w mb t bw bk vt wv kv ms ws ks):AnyTS W mb t w:=⟨_,_,_,_,_,_,_,_,h⟩
theorem AnyTS.old{W w:World}{mb:Nat}{t:Ty}(h:AnyTS W mb t w){b:Nat}{cs:Array Value}{T:TypeId}(hb:BlockAt W b cs T)(hne:b≠mb):BlockAt w b cs T:=by
 obtain⟨_,_,_,_,_,_,_,_,h⟩:=h;exact h.old hb hne
theorem AnyTS.be{W w:World}{mb:Nat}{t:Ty}(h:AnyTS W mb t w){w0:World}(hb:Below w0.heap.size w0 W)(hm:w0.heap.size<=mb):Below w0.heap.size w0 w:=by
 obtain⟨_,_,_,_,_,_,_,_,h⟩:=h;exact h.be hb hm
theorem ZH9{w:World}{base:Nat}{v:Value}{S:List Tm}(h:OwnTm w base v S):∃vo vc,v=.slice vo S.length vc:=by
 obtain⟨h1,h2⟩:=h
 rcases h2 with⟨rfl,h0⟩|⟨g,cap,cur,rfl,rest⟩
 ·exact⟨none,0,by rw[h0]⟩
 ·exact⟨_,_,rfl⟩
theorem Z84{w:World}{base:Nat}{vo:Option Addr}{N vc:Nat}{S:List Tm}(hN:S.length=N)(h:OwnTm w base (.slice vo N vc) S)(h0:0<N):∃g,vo=some ⟨g,0,none⟩/\g<w.heap.size/\∀k (hk:k<S.length),w.cell? ⟨g,k*2,none⟩=some (.string (wordOf S[k].1))/\w.cell? ⟨g,k*2+1,none⟩=some (.int .i64 S[k].2):=by
 subst hN;have h':w.ownsRow base 229 2 (.slice vo S.length vc) S.length (tmC S):=h;obtain⟨h1,h2⟩:=h
 rcases h2 with⟨h2,h3⟩|⟨g,cap,cur,hv,hg,hcur,rest⟩
 ·omega
 ·injection hv with e1 e2 e3
  subst e1;refine⟨g,rfl,(Yy.1 hcur).1,fun k hk=>?_⟩;obtain⟨t0,t1⟩:=Zg8 S k hk;exact⟨(h'.cellAt (k*2) (by omega)).trans t0,(h'.cellAt (k*2+1) (by omega)).trans t1⟩
theorem Zn8{u:ByteArray}{z:Int}(h:markB u=true):encT (decide (u=tiW),z)=[.string u,.int .i64 z]:=by
 unfold encT
 show[Value.string (wordOf (decide (u=tiW))),_]=_
 rw[<-Z41 h]
theorem Zs2{ws:List ByteArray}{ks:List Int}{L:Nat}(h:∀k∈ks,0<=k/\k<(L:Int)):∀x∈marksB (ws.zip ks),0<=x.2/\x.2<(L:Int):=fun x hx=>by
 obtain⟨b,k⟩:=x;exact h k (List.of_mem_zip (mem_marks.1 hx)).2
theorem ZH2{S:List Tm}{k:Nat}(h:k<S.length):lasts (S.drop k)=if h2:k+1<S.length then(if S[k+1].2=S[k].2 then lasts (S.drop (k+1))else S[k]::lasts (S.drop (k+1)))else S[k]::lasts (S.drop (k+1)):=by
 rw[List.drop_eq_getElem_cons h]
 by_cases h2:k+1<S.length
 ·rw[dif_pos h2,List.drop_eq_getElem_cons h2]
  rfl
 ·rw[dif_neg h2,List.drop_eq_nil_of_le (by omega)]
  rfl
theorem Zb2(b:Bool):markB (wordOf b)=true:=by
 cases b
 ·unfold markB
  rw[ByteArray.toList_eq]
  decide
 ·unfold markB
  rw[ByteArray.toList_eq]
  decide
theorem ZC7{l:List Ty}{t:Ty}{ms:List Tm}{x:Tm}(hm:ms=marksB (t.words.zip t.kids))(hx:x∈sortT ms)(hb:badT l x.2=true):oddT l t=true:=by
 unfold sortT at hx;rw[List.mem_mergeSort,hm]at hx;obtain⟨b,k⟩:=x;unfold oddT;rw[List.any_eq_true];exact⟨(wordOf b,k),mem_marks.1 hx,by rw[Zb2,Bool.true_and];exact hb⟩
theorem Zjd{l:List Ty}{t:Ty}{ms:List Tm}(hm:ms=marksB (t.words.zip t.kids))(hb:∀j (h:j<(sortT ms).length),badT l (sortT ms)[j].2=false):oddT l t=false:=by
 unfold oddT;rw[Bool.eq_false_iff];intro h;rw[List.any_eq_true]at h;obtain⟨⟨w,k⟩,h1,h2⟩:=h;rw[Yd]at h2
 have h3:(decide (w=tiW),k)∈sortT ms:=by
  unfold sortT;rw[List.mem_mergeSort,hm,mem_marks,<-Z41 h2.1];exact h1
 obtain⟨j,hj,e⟩:=List.getElem_of_mem h3;have:=hb j hj;rw[e]at this;rw[this]at h2
 cases h2.2
theorem ZIa{t:Ty}{L:Nat}{ms S pre:List Tm}{ws0:List ByteArray}{ks0:List Int}(hm:ms=marksB (t.words.zip t.kids))(hw:ws0=((t.words.zip t.kids).filter fun p=>!markB p.1).map (·.1))(hk:ks0=((t.words.zip t.kids).filter fun p=>!markB p.1).map (·.2))(hS:sortT ms=S)
  (hkid:∀k∈t.kids,0<=k/\k<(L:Int)) (hp:pre=lasts S):ws0++pre.map (fun x=>wordOf x.1)=(tidyT L t).words/\ks0++pre.map (·.2)=(tidyT L t).kids:=by
 have e:pre=termQ L (marksB (t.words.zip t.kids)):=by
  rw[hp,<-hS,hm];exact ZY3 (Zs2 hkid)
 unfold tidyT plainP;rw[Z40,hw,hk,e]
 constructor
 ·show _=List.map _ _
  rw[Yu,List.map_map]
  rfl
 ·show _=List.map _ _
  rw[Yu,List.map_map]
  rfl
theorem Zc0{W w:World}{b:Nat}(h:Below W.heap.size W w)(hb:W.heap.size<=b)(v0 v1 v2 v3 v4:Value) :
  Below W.heap.size W (((((w.setCell ⟨b,0,none⟩ v0).setCell ⟨b,1,none⟩ v1).setCell ⟨b,2,none⟩ v2).setCell ⟨b,3,none⟩ v3).setCell ⟨b,4,none⟩ v4):=
 ((((h.setCell hb _).setCell hb _).setCell hb _).setCell hb _).setCell hb _
theorem ZB6{w:World}{base b:Nat}{v:Value}{ss:List ByteArray}(h:OwnW w base v ss)(hb:b<base)(v0 v1 v2 v3 v4:Value):OwnW (((((w.setCell ⟨b,0,none⟩ v0).setCell ⟨b,1,none⟩ v1).setCell ⟨b,2,none⟩ v2).setCell ⟨b,3,none⟩ v3).setCell ⟨b,4,none⟩ v4) base v ss:=
 ZR (ZR (ZR (ZR (ZR h hb) hb) hb) hb) hb
theorem ZZ5{w:World}{base b:Nat}{v:Value}{zs:List Int}(h:OwnK w base v zs)(hb:b<base)(v0 v1 v2 v3 v4:Value):OwnK (((((w.setCell ⟨b,0,none⟩ v0).setCell ⟨b,1,none⟩ v1).setCell ⟨b,2,none⟩ v2).setCell ⟨b,3,none⟩ v3).setCell ⟨b,4,none⟩ v4) base v zs:=
 ZR (ZR (ZR (ZR (ZR h hb) hb) hb) hb) hb
def unB(z:Int):Bool:=decide (14<=z/\z<=19)
def TidyR(w:World)(t:Ty)(odd:Bool)(tt:Ty)(e:Ending)(w':World):Prop:=
 (odd=true/\∃(co dO:Option Addr) (cl cc dl dc:Nat),e=.returned (.tuple #[.agg #[.int .i64 t.kind,.string t.name,.int .i64 t.n,.slice co cl cc,.slice dO dl dc],.bool false])/\Below w.heap.size w w') \/
 (odd=false/\∃ao bo ac bc,e=.returned (.tuple #[tyV tt ao ac bo bc,.bool true])/\tt.words.length<=ac/\tt.kids.length<=bc/\SRow w' ao tt.words/\IRow w' bo tt.kids/\(∀a,ao=some a->w.heap.size<=a.block)/\(∀a,bo=some a->w.heap.size<=a.block)/\Below w.heap.size w w')
set_option maxRecDepth 100000 in
theorem ZMc(l:List Ty)(lo:Option Addr)(lc:Nat)(t:Ty)(wo ko:Option Addr)(wc kc:Nat)(w:World)(hl:ARow w lo l)(ht:TyC w wo ko t)(hlen:t.words.length=t.kids.length)(hkb:∀k∈t.kids,0<=k/\k<(l.length:Int))(ll:l.length<=1000) :
  Calls Tryz.prog 162 #[.slice lo l.length lc,tyV t wo wc ko kc] w (TidyR w t (oddT l t) (tidyT l.length t)):=by
 obtain⟨s0,hsi,hs0,hs1,hs2⟩:=info_parts Zu6;obtain⟨k0,hki,hk0,hk1,hk2⟩:=info_parts Zc3;obtain⟨t0,hti,ht0,ht1,ht2⟩:=info_parts Zdd;unfold tyV;have HT:=Yh ht;have HA:=Yh hl;have AE:=Yh hkb;have B5:=ht.ok.kl;obtain⟨m,hm⟩:=Yn (t.kids.length);have HM:=Yh hm;have Ax:=Yh (hlen.trans hm);obtain⟨n,hn⟩:=Yn (l.length);have HN:=Yh hn;rw[hlen,hm,hn];rw[hm]at B5;rw[hn]at ll;obtain⟨w1,h1⟩:=Yn (w.alloc (.cells #[.int .i64 t.kind,.string t.name,.int .i64 t.n,.slice wo m wc,.slice ko m kc] 50));obtain⟨w2,h2⟩:=Yn (w1.alloc (.cells #[.int .i64 0,.string ⟨#[]⟩,.int .i64 0,.slice none 0 0,.slice none 0 0] 50));obtain⟨W3,h3⟩:=Yn (w2.alloc (.cells #[.int .i64 t.kind,.string t.name,.int .i64 t.n,.slice none 0 0,.slice none 0 0] 50));obtain⟨k1,q1,z1⟩:=Za h1;obtain⟨k2,q2,z2⟩:=Za h2;obtain⟨k3,q3,z3⟩:=Za h3;have K1:=Yh ((k1.below q2).below q3);have K2:=Yh (k2.below q3);have BW:=Yh (q1.trans ((q2.trans (q3.mono q2.size)).mono q1.size));have ZZ:=Yh (YH z1 (YH z2 z3));obtain⟨mb,hmb⟩:=Yn (w2.heap.size);have B6:=Yh hmb
 have B7:=Yh (show TS W3 W3 mb t (.slice none 0 0) (.slice none 0 0) (.slice none 0 0) (.slice none 0 0) (.slice none 0 0) [] [] []from
  ⟨Zi6 _ _,Zd8 _ _,Zk4 _ _,.inl rfl,.inl rfl,.inl rfl,by rw[<-hmb];exact k3,by rw[z3,<-hmb];exact Nat.lt_succ_self _,⟨rfl,rfl,rfl,Yk _,fun _ _ _=>rfl⟩⟩)
 have H3:=Yh h3;obtain⟨c0,c1,c2,c3,c4⟩:=cell5 k1;obtain⟨d0,d1,d2,d3,d4⟩:=cell5 (k1.below q2);have Bj:mb<W3.heap.size:=by rw[z3,<-hmb];exact Nat.lt_succ_self _
 have AT:w.heap.size<=mb/\w.heap.size≠mb:=by rw[<-hmb,z2,z1];omega
 have Am:=Yh AT;have Ay:=@Yh (w1.heap.size≠mb) (by rw[<-hmb,z2];omega);have A5:=@Yh (w.heap.size<=w1.heap.size) (by omega);have An:=@Yh (w1.heap.size<W3.heap.size) (by omega);have AF:w.heap.size<w2.heap.size:=by omega
 have A1:=@Yh (∀w',AnyTS W3 mb t w'->w'.cell? ⟨w.heap.size,4,none⟩=some (.slice ko m kc)) (fun w' h=>(h.old K1.o Am.o.2).cell 4);have A6:=@Yh (∀w',AnyTS W3 mb t w'->Below w.heap.size w w') (fun w' h=>h.be BW.o Am.o.1);clear hl ht hlen hkb hm hn h3 k1 k2 k3 q1 q2 q3 z1 z2 z3 AT hmb;go_enter Tryz.func162,Tryz.ntmps162;go_wp2_with fail;rw[H3.o];rw[B6.o];clear h1 h2 AF c0 c1 c2 c3 c4 d0 d1 d2 d3 d4;go_loopw [6,20] (fun v6 v20 wr=>∃(q:Nat) (vt wv kv:Value),q<=m/\v6=vt/\v20=.int .i64 q/\Hi (TS W3 wr mb t wv kv vt wv kv (msQ (t.words.zip t.kids) q) (wsQ (t.words.zip t.kids) q) (ksQ (t.words.zip t.kids) q))) (fun _ v _=>m-(intOf v).toNat)
 case atStart=>exact⟨0,_,_,_,Yl _,rfl,rfl,B7⟩
 case round =>
  obtain⟨q,vt,wv,kv,hq,rfl,rfl,TQ⟩:=hrel;have ql:=q_len (t.words.zip t.kids) q
  by_cases hql:q<m
  ·have B8:q<t.words.length:=by rw[Ax.o];exact hql
   have AG:q<t.kids.length:=by rw[HM.o];exact hql
   obtain⟨wb,wof,rfl,hwb,hwcell⟩:=HT.o.words.cells (by omega);obtain⟨kb,kof,rfl,hkb,hkcell⟩:=HT.o.kids.cells (by omega);have cu:=(A6.o _ TQ.o.any).cell (p:=⟨wb,wof+q,none⟩) hwb;rw[hwcell q B8]at cu;have cz:=(A6.o _ TQ.o.any).cell (p:=⟨kb,kof+q,none⟩) hkb;rw[hkcell q AG]at cz;have QM:=Yh (fun h=>Zzb (q:=q) Ax.o HM.o hql h);have QP:=Yh (fun h=>Zd9 (q:=q) Ax.o HM.o hql h);have Ak:=AE.o _ (Zd AG);have Ac:=hkcell q AG;obtain⟨u,hu⟩:=Yn (t.words.getD q ⟨#[]⟩);obtain⟨z,hz⟩:=Yn (t.kids.getD q 0);rw[hu]at cu QM QP;rw[hz]at cz QM QP Ak Ac;have A3:=@Yh (∀w',AnyTS W3 mb t w'->w'.cell? ⟨kb,kof+q,none⟩=some (.int .i64 z)) (fun w' h=>((A6.o _ h).cell (p:=⟨kb,kof+q,none⟩) hkb).trans Ac);obtain⟨ms0,hms⟩:=Yn (msQ (t.words.zip t.kids) q);obtain⟨ws0,hws⟩:=Yn (wsQ (t.words.zip t.kids) q);obtain⟨ks0,hks⟩:=Yn (ksQ (t.words.zip t.kids) q);rw[hms,hws,hks]at TQ ql;rw[hms,hws,hks]at QM QP;have AU:=A1.o _ TQ.o.any;have Ao:=TQ.o.box.cell 3;have Ap:=TQ.o.box.cell 4;simp only[List.getElem?_toArray,List.getElem?_cons_zero,List.getElem?_cons_succ]at Ao Ap;clear hu hz hwcell hkcell Ac hwb hkb hms hws hks
   cases hm1:(u.toList==[61])
   ·cases hm2:(u.toList==[126])
    ·have A4:=Yh (QP.o (show markB u=false by unfold markB;rw[hm1,hm2];rfl))
     go_upto_region 9 with fail;obtain⟨wz,hwz⟩:∃wz,wz=wr:=⟨_,rfl⟩
     subst hwz;have TZ:=TQ;have Aq:=@Yh (∀b,wz.heap.size<=b->wv.ownBlock≠some b) (fun b hb e=>by have:=Zt0 TZ.o.wr b e;omega);have B9:=Yh (rfl:(1:Nat)=1);have Ba:=Yh (rfl:(1:Nat)=1);refine GoG.start [(15,⟨mb,3,none⟩,wv),(17,⟨mb,4,none⟩,kv),(17,⟨w.heap.size,4,none⟩,.slice (some ⟨kb,kof,none⟩) m kc),(17,⟨kb,kof+q,none⟩,.int .i64 z)] (by kernel_rfl) ?_ ?_
     ·exact(Kc (by first|assumption|simp[*]) (Kc (by first|assumption|simp[*]) (Kc (by first|assumption|simp[*]) (Kc (by first|assumption|simp[*]) Kn))))
     refine GoG.fr 0 ?_;refine GoG.s1 1 0 [15] ?_;refine GoG.fr 2 ?_;refine GoG.fr 5 ?_;refine GoG.s1 6 1 [17] ?_;refine GoG.fr 7 ?_;refine GoG.s1 8 2 [17] ?_;refine GoG.fr 9 ?_;refine GoG.fr 10 ?_;refine GoG.s1 11 3 [17] ?_;refine GoG.two (i:=3) (j:=12) rfl rfl (by kernel_rfl) (fun K hK=>?_) (fun K hK=>?_);have T1:=Yh (TZ.o.kept (show Below wz.heap.size wz (wz.alloc (.cells #[.string u] 9)).drew from((Y8 _ _).alloc (Yk _) _).drew));have K1:=@Yh (BlockAt (wz.alloc (.cells #[.string u] 9)).drew (wz.heap.size) #[.string u] 9) (BlockAt.new _ _ _);go_simp;refine hK.out _ _ (Kc (T1.o.box.cell 3) (Kc (T1.o.box.cell 4) (Kc (A1.o _ T1.o.any) (Kc (A3.o _ T1.o.any) Kn)))) ?_;clear hK K
     try simp only[Act.put,YB,YC,YD,YE,YF,YG]
     refine GoG.two (i:=4) (j:=12) rfl rfl (by kernel_rfl) (fun K hK=>?_) (fun K hK=>?_);obtain⟨v5,w5,hap,hown,hgrow,-,hblk⟩:=run_append_own_at (P:=Tryz.prog) (wz.alloc (.cells #[.string u] 9)).drew W3.heap.size 42 42 9 s0 (.string ⟨#[]⟩) 1 16 Tryz.underlying42 hsi hs0 hs1 hs2 rfl (by decide) wv ws0.length (strC ws0) T1.o.wr ⟨wz.heap.size,0,none⟩ 1 1 [.string u] rfl (Zr K1.o) (fun u hu=>by rw[Yo.1 hu];rfl) (by unfold maxLen;omega) (by omega) T1.o.gr.size;have T5:=Yh (T1.o.pushW hgrow hown hblk);obtain⟨aov5,acv5,ev5,-,-⟩:=ZE T5.o.wr;rw[Ye,List.length_singleton]at ev5;subst ev5;rw[if_pos (by rfl)];refine Zb _ _ _ rfl _ _ _ rfl rfl hap ?_;refine hK.out _ _ (Kc (T5.o.box.cell 3) (Kc (T5.o.box.cell 4) (Kc (A1.o _ T5.o.any) (Kc (A3.o _ T5.o.any) Kn)))) ?_;clear hK K hap hown hgrow hblk;refine GoG.fr 14 ?_;have T7:=Yh (T5.o.kept (show Below w5.heap.size w5 (w5.alloc (.cells #[.int .i64 z] 3))from(Y8 _ _).alloc (Yk _) _));have K7:=@Yh (BlockAt (w5.alloc (.cells #[.int .i64 z] 3)) (w5.heap.size) #[.int .i64 z] 3) (BlockAt.new _ _ _);refine GoG.on 12 fun K hK=>?_
     go_simp;refine hK.out _ _ (Kc (T7.o.box.cell 3) (Kc (T7.o.box.cell 4) (Kc (A1.o _ T7.o.any) (Kc (A3.o _ T7.o.any) Kn)))) ?_;clear hK K
     try simp only[Act.put,YB,YC,YD,YE,YF,YG]
     obtain⟨v6,w6,hap,hown,hgrow,-,hblk⟩:=run_append_own_at (P:=Tryz.prog) (w5.alloc (.cells #[.int .i64 z] 3)) W3.heap.size 26 26 3 k0 (.int .i64 0) 1 8 Tryz.underlying26 hki hk0 hk1 hk2 rfl (by decide) kv ks0.length (intC ks0) T7.o.kr ⟨w5.heap.size,0,none⟩ 1 1 [.int .i64 z] rfl (Zr K7.o) (fun u hu=>by rw[Yo.1 hu];rfl) (by unfold maxLen;omega) (by omega) T7.o.gr.size;have T6:=Yh (T7.o.pushK hgrow hown hblk);obtain⟨aov6,acv6,ev6,-,-⟩:=Zi T6.o.kr;rw[Ye,List.length_singleton]at ev6;subst ev6;refine GoG.on 13 fun K hK=>?_
     rw[if_pos (by rfl)];refine Zb _ _ _ rfl _ _ _ rfl rfl hap ?_;refine hK.out _ _ (Kc (T6.o.box.cell 3) (Kc (T6.o.box.cell 4) (Kc (A1.o _ T6.o.any) (Kc (A3.o _ T6.o.any) Kn)))) ?_;clear hK K hap hown hgrow hblk
     try simp only[Act.put,YB,YC,YD,YE,YF,YG]
     rotate_left;have T2:=Yh (TZ.o.kept (show Below wz.heap.size wz ((wz.alloc (.cells #[.string u] 9)).alloc (.cells #[.int .i64 z] 3)).drew from(((Y8 _ _).alloc (Yk _) _).alloc (by simp) _).drew));have K2:=@Yh (BlockAt ((wz.alloc (.cells #[.string u] 9)).alloc (.cells #[.int .i64 z] 3)).drew (wz.heap.size+1) #[.int .i64 z] 3) ((show BlockAt ((wz.alloc (.cells #[.string u] 9)).alloc (.cells #[.int .i64 z] 3)) (wz.heap.size+1) #[.int .i64 z] 3 from by simpa using BlockAt.new (wz.alloc (.cells #[.string u] 9)) #[.int .i64 z] 3));have K3:=@Yh (BlockAt ((wz.alloc (.cells #[.string u] 9)).alloc (.cells #[.int .i64 z] 3)).drew wz.heap.size #[.string u] 9) ((BlockAt.new wz #[.string u] 9).below ((Y8 _ _).alloc (Yk _) _).drew);go_simp;refine hK.out _ _ (Kc (T2.o.box.cell 3) (Kc (T2.o.box.cell 4) (Kc (A1.o _ T2.o.any) (Kc (A3.o _ T2.o.any) Kn)))) ?_;clear hK K
     try simp only[Act.put,YB,YC,YD,YE,YF,YG]
     obtain⟨v5,w5,hap,hown,hgrow,-,hblk⟩:=run_append_own_at (P:=Tryz.prog) ((wz.alloc (.cells #[.string u] 9)).alloc (.cells #[.int .i64 z] 3)).drew W3.heap.size 42 42 9 s0 (.string ⟨#[]⟩) 1 16 Tryz.underlying42 hsi hs0 hs1 hs2 rfl (by decide) wv ws0.length (strC ws0) T2.o.wr ⟨wz.heap.size,0,none⟩ 1 1 [.string u] rfl (Zr K3.o) (fun u hu=>by rw[Yo.1 hu];rfl) (by unfold maxLen;omega) (by omega) T2.o.gr.size;have T5:=Yh (T2.o.pushW hgrow hown hblk);obtain⟨aov5,acv5,ev5,-,-⟩:=ZE T5.o.wr;rw[Ye,List.length_singleton]at ev5;subst ev5;have K5:=Yh (Zz K2.o (Aq.o _ (by simp)) hgrow);refine GoG.on 4 fun K hK=>?_
     rw[if_pos (by rfl)];refine Zb _ _ _ rfl _ _ _ rfl rfl hap ?_;refine hK.out _ _ (Kc (T5.o.box.cell 3) (Kc (T5.o.box.cell 4) (Kc (A1.o _ T5.o.any) (Kc (A3.o _ T5.o.any) Kn)))) ?_;clear hK K hap hown hgrow hblk;refine GoG.fr 14 ?_;obtain⟨v6,w6,hap,hown,hgrow,-,hblk⟩:=run_append_own_at (P:=Tryz.prog) w5 W3.heap.size 26 26 3 k0 (.int .i64 0) 1 8 Tryz.underlying26 hki hk0 hk1 hk2 rfl (by decide) kv ks0.length (intC ks0) T5.o.kr ⟨wz.heap.size+1,0,none⟩ 1 1 [.int .i64 z] rfl (Zr K5.o) (fun u hu=>by rw[Yo.1 hu];rfl) (by unfold maxLen;omega) (by omega) T5.o.gr.size;have T6:=Yh (T5.o.pushK hgrow hown hblk);obtain⟨aov6,acv6,ev6,-,-⟩:=Zi T6.o.kr;rw[Ye,List.length_singleton]at ev6;subst ev6;refine GoG.on 13 fun K hK=>?_
     rw[if_pos (by rfl)];refine Zb _ _ _ rfl _ _ _ rfl rfl hap ?_;refine hK.out _ _ (Kc (T6.o.box.cell 3) (Kc (T6.o.box.cell 4) (Kc (A1.o _ T6.o.any) (Kc (A3.o _ T6.o.any) Kn)))) ?_;clear hK K hap hown hgrow hblk
     try simp only[Act.put,YB,YC,YD,YE,YF,YG]
     rotate_left;have T1:=Yh (TZ.o.kept (show Below wz.heap.size wz (wz.alloc (.cells #[.int .i64 z] 3)).drew from((Y8 _ _).alloc (Yk _) _).drew));have K1:=@Yh (BlockAt (wz.alloc (.cells #[.int .i64 z] 3)).drew (wz.heap.size) #[.int .i64 z] 3) (BlockAt.new _ _ _);go_simp;refine hK.out _ _ (Kc (T1.o.box.cell 3) (Kc (T1.o.box.cell 4) (Kc (A1.o _ T1.o.any) (Kc (A3.o _ T1.o.any) Kn)))) ?_;clear hK K
     try simp only[Act.put,YB,YC,YD,YE,YF,YG]
     have T2:=Yh (TZ.o.kept (show Below wz.heap.size wz ((wz.alloc (.cells #[.int .i64 z] 3)).alloc (.cells #[.string u] 9)).drew from(((Y8 _ _).alloc (Yk _) _).alloc (by simp) _).drew));have K2:=@Yh (BlockAt ((wz.alloc (.cells #[.int .i64 z] 3)).alloc (.cells #[.string u] 9)).drew (wz.heap.size+1) #[.string u] 9) ((show BlockAt ((wz.alloc (.cells #[.int .i64 z] 3)).alloc (.cells #[.string u] 9)) (wz.heap.size+1) #[.string u] 9 from by simpa using BlockAt.new (wz.alloc (.cells #[.int .i64 z] 3)) #[.string u] 9));have K3:=@Yh (BlockAt ((wz.alloc (.cells #[.int .i64 z] 3)).alloc (.cells #[.string u] 9)).drew wz.heap.size #[.int .i64 z] 3) ((BlockAt.new wz #[.int .i64 z] 3).below ((Y8 _ _).alloc (Yk _) _).drew);refine GoG.on 3 fun K hK=>?_
     go_simp;refine hK.out _ _ (Kc (T2.o.box.cell 3) (Kc (T2.o.box.cell 4) (Kc (A1.o _ T2.o.any) (Kc (A3.o _ T2.o.any) Kn)))) ?_;clear hK K
     try simp only[Act.put,YB,YC,YD,YE,YF,YG]
     obtain⟨v5,w5,hap,hown,hgrow,-,hblk⟩:=run_append_own_at (P:=Tryz.prog) ((wz.alloc (.cells #[.int .i64 z] 3)).alloc (.cells #[.string u] 9)).drew W3.heap.size 42 42 9 s0 (.string ⟨#[]⟩) 1 16 Tryz.underlying42 hsi hs0 hs1 hs2 rfl (by decide) wv ws0.length (strC ws0) T2.o.wr ⟨wz.heap.size+1,0,none⟩ 1 1 [.string u] rfl (Zr K2.o) (fun u hu=>by rw[Yo.1 hu];rfl) (by unfold maxLen;omega) (by omega) T2.o.gr.size;have T5:=Yh (T2.o.pushW hgrow hown hblk);obtain⟨aov5,acv5,ev5,-,-⟩:=ZE T5.o.wr;rw[Ye,List.length_singleton]at ev5;subst ev5;have K5:=Yh (Zz K3.o (Aq.o _ (by simp)) hgrow);refine GoG.on 4 fun K hK=>?_
     rw[if_pos (by rfl)];refine Zb _ _ _ rfl _ _ _ rfl rfl hap ?_;refine hK.out _ _ (Kc (T5.o.box.cell 3) (Kc (T5.o.box.cell 4) (Kc (A1.o _ T5.o.any) (Kc (A3.o _ T5.o.any) Kn)))) ?_;clear hK K hap hown hgrow hblk;refine GoG.fr 14 ?_;obtain⟨v6,w6,hap,hown,hgrow,-,hblk⟩:=run_append_own_at (P:=Tryz.prog) w5 W3.heap.size 26 26 3 k0 (.int .i64 0) 1 8 Tryz.underlying26 hki hk0 hk1 hk2 rfl (by decide) kv ks0.length (intC ks0) T5.o.kr ⟨wz.heap.size,0,none⟩ 1 1 [.int .i64 z] rfl (Zr K5.o) (fun u hu=>by rw[Yo.1 hu];rfl) (by unfold maxLen;omega) (by omega) T5.o.gr.size;have T6:=Yh (T5.o.pushK hgrow hown hblk);obtain⟨aov6,acv6,ev6,-,-⟩:=Zi T6.o.kr;rw[Ye,List.length_singleton]at ev6;subst ev6;refine GoG.on 13 fun K hK=>?_
     rw[if_pos (by rfl)];refine Zb _ _ _ rfl _ _ _ rfl rfl hap ?_;refine hK.out _ _ (Kc (T6.o.box.cell 3) (Kc (T6.o.box.cell 4) (Kc (A1.o _ T6.o.any) (Kc (A3.o _ T6.o.any) Kn)))) ?_;clear hK K hap hown hgrow hblk
     try simp only[Act.put,YB,YC,YD,YE,YF,YG]
     rotate_left
     all_goals
      have AH:=T6.o.box.free 3;have Ar:=T6.o.box.cell 3;simp only[List.getElem?_toArray,List.getElem?_cons_zero,List.getElem?_cons_succ]at Ar;have TA:=Yh (T6.o.store3 (.slice aov5 (ws0.length+1) acv5));refine GoG.on 15 fun K hK=>?_
      go_simp;clear AH Ar;refine hK.out _ _ (Ku (Kc (TA.o.box.cell 4) (Kc (A1.o _ TA.o.any) (Kc (A3.o _ TA.o.any) Kn)))) ?_;clear hK K;refine GoG.fr 16 ?_;have AI:=TA.o.box.free 4;have As:=TA.o.box.cell 4;simp only[List.getElem?_toArray,List.getElem?_cons_zero,List.getElem?_cons_succ]at As;have TB:=Yh (TA.o.store4 (.slice aov6 (ks0.length+1) acv6));refine GoG.on 17 fun K hK=>?_
      go_simp;clear AI As;refine hK.out _ _ (Ku (Ku (Ku (Ku Kn)))) ?_;clear hK K
      try simp only[Act.put,YB,YC,YD,YE,YF,YG]
      refine GoG.done (by kernel_rfl) ?_ _;go_wp2_with fail;go_roundw
      case rel=>exact⟨q+1,_,_,_,by omega,rfl,by go_num,Yh (by rw[A4.o.1,A4.o.2.1,A4.o.2.2,B9.o,Ba.o];exact TB.o)⟩
      case measure=>first|(simp[intOf];done)|(simp[intOf];omega)
    ·have Ad:markB u=true:=by unfold markB;rw[hm1,hm2];first|rfl|simp
     have A4:=Yh (QM.o Ad);have AJ:=Yh (Zn8 (z:=z) Ad);have At:=@Yh (wr.ownsRow W3.heap.size 229 2 _ ms0.length (tmC ms0)) (TQ.o.tm);have AK:=@Yh (W3.heap.size<=wr.heap.size) (TQ.o.gr.size);clear Ad;go_wp2_with (at_builtin;refine wpList_append_own_at _ rfl _ _ 227 rfl W3.heap.size 229 t0 (.agg #[.string ⟨#[]⟩,.int .i64 0]) 2 24 Tryz.underlying227 hti ht0 ht1 ht2 rfl (by decide) _ ms0.length (tmC ms0) rfl (At.o.alloc _) ⟨wr.heap.size,0,none⟩ 1 1 [.string u,.int .i64 z] rfl ?c1 ?c2 ?c3 ?c4 ?c5 ?c6 ?_)
     case c1=>rfl
     case c2=>exact Z9 _ _ _
     case c3=>exact fun v hv=>by simp at hv;rcases hv with rfl|rfl<;>rfl
     case c4=>unfold maxLen;omega
     case c5=>omega
     case c6=>have:=AK.o;simp;omega
     intro v' w3 hown3 hgrow _ hblk;have TA:=Yh ((TQ.o.kept (show Below wr.heap.size wr _ from(Y8 _ _).alloc (Yk _) (.cells #[.string u,.int .i64 z] 229))).pushT (x:=(decide (u=tiW),z)) hgrow (by rw[AJ.o];exact hown3) (by simpa using hblk));clear hown3 hgrow hblk At cu cz AU Ao Ap;go_wp2_with fail;go_roundw
     case rel=>exact⟨q+1,_,_,_,by omega,rfl,by go_num,Yh (by rw[A4.o.1,A4.o.2.1,A4.o.2.2];exact TA.o)⟩
     case measure=>first|(simp[intOf];done)|(simp[intOf];omega)
   ·have Ad:markB u=true:=by unfold markB;rw[hm1];first|rfl|simp
    have A4:=Yh (QM.o Ad);have AJ:=Yh (Zn8 (z:=z) Ad);have At:=@Yh (wr.ownsRow W3.heap.size 229 2 _ ms0.length (tmC ms0)) (TQ.o.tm);have AK:=@Yh (W3.heap.size<=wr.heap.size) (TQ.o.gr.size);clear Ad;go_wp2_with (at_builtin;refine wpList_append_own_at _ rfl _ _ 227 rfl W3.heap.size 229 t0 (.agg #[.string ⟨#[]⟩,.int .i64 0]) 2 24 Tryz.underlying227 hti ht0 ht1 ht2 rfl (by decide) _ ms0.length (tmC ms0) rfl (At.o.alloc _) ⟨wr.heap.size,0,none⟩ 1 1 [.string u,.int .i64 z] rfl ?c1 ?c2 ?c3 ?c4 ?c5 ?c6 ?_)
    case c1=>rfl
    case c2=>exact Z9 _ _ _
    case c3=>exact fun v hv=>by simp at hv;rcases hv with rfl|rfl<;>rfl
    case c4=>unfold maxLen;omega
    case c5=>omega
    case c6=>have:=AK.o;simp;omega
    intro v' w3 hown3 hgrow _ hblk;have TA:=Yh ((TQ.o.kept (show Below wr.heap.size wr _ from(Y8 _ _).alloc (Yk _) (.cells #[.string u,.int .i64 z] 229))).pushT (x:=(decide (u=tiW),z)) hgrow (by rw[AJ.o];exact hown3) (by simpa using hblk));clear hown3 hgrow hblk At cu cz AU Ao Ap;go_wp2_with fail;go_roundw
    case rel=>exact⟨q+1,_,_,_,by omega,rfl,by go_num,Yh (by rw[A4.o.1,A4.o.2.1,A4.o.2.2];exact TA.o)⟩
    case measure=>first|(simp[intOf];done)|(simp[intOf];omega)
  ·obtain rfl:q=m:=by omega
   have AL:=@Yh ((t.words.zip t.kids).take q=t.words.zip t.kids) (Y3 (by rw[List.length_zip];have:=Ax.o;have:=HM.o;omega));have Ae:=Zs2 (ws:=t.words) (ks:=t.kids) (L:=l.length) AE.o;have A7:msQ (t.words.zip t.kids) q=marksB (t.words.zip t.kids):=by unfold msQ;rw[AL.o]
   have Af:wsQ (t.words.zip t.kids) q=((t.words.zip t.kids).filter fun p=>!markB p.1).map (·.1):=by unfold wsQ;rw[AL.o]
   have Ag:ksQ (t.words.zip t.kids) q=((t.words.zip t.kids).filter fun p=>!markB p.1).map (·.2):=by unfold ksQ;rw[AL.o]
   obtain⟨ms0,hms⟩:=Yn (msQ (t.words.zip t.kids) q);obtain⟨ws0,hws⟩:=Yn (wsQ (t.words.zip t.kids) q);obtain⟨ks0,hks⟩:=Yn (ksQ (t.words.zip t.kids) q);rw[hms,hws,hks]at TQ ql;rw[hms]at A7;rw[hws]at Af;rw[hks]at Ag;rw[<-A7]at Ae;obtain⟨vo,vc,rfl⟩:=ZH9 TQ.o.tm;have AV:=@Yh (∀x∈sortT ms0,0<=x.2/\x.2<(l.length:Int)) (fun x hx=>Ae x (by unfold sortT at hx;rwa [List.mem_mergeSort]at hx));have AM:=Yh (fun W (h:TS W3 W mb t wv kv (.slice vo ms0.length vc) wv kv ms0 ws0 ks0)=>Zod h (by omega));have A8:=Yh (Z61 ms0);have A0:=Yh (YH A7 (YH Af Ag));obtain⟨N,hN⟩:=Yn (ms0.length);obtain⟨S,hS⟩:=Yn (sortT ms0);have Au:=Yh hS;rw[hN]at ql A8;rw[hS]at A8 AV;have Bk:=Yh hN;rw[hN]at TQ AM ⊢;rw[hS]at AM;clear hN hS hms hws hks Ae A7 Af Ag;go_wp2_with fail;refine(AM.o _ TQ.o).mono ?_;rintro e w5 ⟨rfl,T5⟩;have Bb:=Yh T5;clear T5;go_wp2_with fail;go_loopw [62] (fun v wr=>∃(k:Nat) (wv kv:Value) (pre:List Tm),k<=N/\v=.int .i64 k/\Hi (pre++lasts (S.drop k)=lasts S)/\Hi (pre.length<=k)/\Hi (∀j (h:j<S.length),j<k->badT l S[j].2=false)/\Hi (TS W3 wr mb t wv kv (.slice vo N vc) wv kv S (ws0++pre.map (fun x=>wordOf x.1)) (ks0++pre.map (·.2)))) (fun v _=>N-(intOf v).toNat)
   case atStart=>exact⟨0,wv,kv,[],Yl _,rfl,Yh (by simp),Yh (Yk _),Yh (fun j h h2=>absurd h2 (Yr _)),Yh (by simpa using Bb.o)⟩
   case round =>
    obtain⟨k,wv2,kv2,pre,hk,rfl,HPRE,HPL,HBAD,TR⟩:=hrel
    by_cases hkl:k<N
    ·have Aa:k<S.length:=by rw[A8.o];exact hkl
     obtain⟨g,rfl,hgl,hcS⟩:=Z84 A8.o TR.o.tm (by omega);obtain⟨cA,cB⟩:=hcS k Aa;have Ak:=AV.o _ (Yq Aa);obtain⟨x,hx⟩:=Yn (S[k]);rw[hx]at cA cB Ak;have Ab:=Yh hx;obtain⟨bx,z⟩:=x;obtain⟨wd,hwd⟩:=Yn (wordOf bx);have Ak:0<=z/\z<(l.length:Int):=Ak;have cA:wr.cell? ⟨g,k*2,none⟩=some (.string wd):=by rw[<-hwd];exact cA
     have cB:wr.cell? ⟨g,k*2+1,none⟩=some (.int .i64 z):=cB;have Bc:=Yh hwd;obtain⟨zn,rfl⟩:∃zn:Nat,z=(zn:Int):=⟨z.toNat,by omega⟩
     obtain⟨lb,lof,rfl,hlb,hlcell⟩:=HA.o.cells (by omega);have AW:=hlcell zn (by omega)
     have A9:kindAt l (zn:Int)=(l[zn]'(by omega)).kind:=by
      unfold kindAt;rw[Yw,Yv (by omega)]
      rfl
     obtain⟨y,hy⟩:=Yn (l[zn]'(by omega));rw[hy]at AW A9;obtain⟨_,_,_,_,cK0,-,-,-,-,-,-,-⟩:=AW;have cK:=((A6.o _ TR.o.any).cell (p:=⟨lb,lof+zn*5,none⟩) hlb).trans cK0;obtain⟨kp,hkp⟩:=Yn (y.kind);rw[hkp]at cK A9;have Bd:=Yh A9;rw[HN.o]at Ak;have Bl:(zn:Int)<(n:Int):=by omega
     obtain⟨wn,hwn,kx,qx,zx⟩:=YA wr #[.string wd,.int .i64 (zn:Int)] 229;have QX:=Yh qx;have TN:=Yh (TR.o.kept qx);obtain⟨xb,hxb⟩:=Yn (wr.heap.size);have AN:=Yh hxb;rw[hxb]at kx;have KX:=Yh kx;have x0:=kx.cell 0;have x1:=kx.cell 1;simp only[List.getElem?_toArray,List.getElem?_cons_zero,List.getElem?_cons_succ]at x0 x1;have AX:=(qx.cell (p:=⟨lb,lof+zn*5,none⟩) (Yi hlb (A6.o _ TR.o.any).size)).trans cK;clear hx hwd hkp kx qx zx cK0 hlcell hcS hy A9;go_upto_region 15 with fail;go_cut [12] (fun a wx=>a=.bool (unB (zn:Int))/\wn=wx)
     case first =>
      by_cases hd14:14<=(zn:Int)
      ·have d1:decide (14<=(zn:Int))=true:=Yb hd14
       have HU:=@Yh (decide ((zn:Int)<=19)=unB (zn:Int)) (by unfold unB;simp[hd14]);clear hd14;go_wp2_with fail;go_meet
       case rel=>exact⟨by first|(rw[<-HU.o];done)|(rw[<-HU.o];rfl),by first|rfl|exact hwn.symm⟩
      ·have d1:decide (14<=(zn:Int))=false:=Ya hd14
       have HU:=@Yh (false=unB (zn:Int)) (by unfold unB;simp[hd14]);clear hd14;go_wp2_with fail;go_meet
       case rel=>exact⟨by first|(rw[<-HU.o];done)|(rw[<-HU.o];rfl),by first|rfl|exact hwn.symm⟩
     case rest =>
      obtain⟨rfl,rfl⟩:=hcut
      have Av:=Yh (show badT l (zn:Int)=(unB (zn:Int)||(decide (kp=7)||decide (kp=9)))by
       unfold badT unB;rw[Bd.o]
       by_cases h1:kp=7<;>by_cases h2:kp=9<;>by_cases h3:14<=(zn:Int)/\(zn:Int)<=19<;>simp[h1,h2,h3])
      obtain⟨un,hun⟩:=Yn (unB (zn:Int));rw[hun]at Av ⊢;clear hun
      cases un
      ·by_cases h7:kp=7
       ·have Az:(kp==7)=true:=by rw[YK];exact h7
        have Ah:=@Yh (badT l (zn:Int)=true) (by rw[Av.o,Yb h7];rfl);clear h7;have Ai:=@Yh (oddT l t=true) (ZC7 (x:=S[k]) A0.o.1 (by rw[Au.o];exact Yq Aa) (by rw[Ab.o];exact Ah.o));obtain⟨e0,e1,e2,e3,e4⟩:=cell5 (TN.o.old K1.o Am.o.2);have M2:=TN.o.old K2.o Ay.o;obtain⟨f0,f1,f2,f3,f4⟩:=cell5 M2;have g0:=M2.free 0;have g1:=M2.free 1;have g2:=M2.free 2;have g3:=M2.free 3;have g4:=M2.free 4;clear M2;go_wp2_with fail;refine bodyPost_ret (v:=.tuple #[.agg #[.int .i64 t.kind,.string t.name,.int .i64 t.n,.slice wo q wc,.slice ko q kc],.bool false]) (by simp[results,Tryz.results162,go_sem,f0,f1,f2,f3,f4]) rfl ?_;exact .inl ⟨Ai.o,_,_,_,_,_,_,rfl,Zc0 (A6.o _ TN.o.any) A5.o _ _ _ _ _⟩
       ·have Az:(kp==7)=false:=by rw[Yc];exact h7
        by_cases h9:kp=9
        ·have AA:(kp==9)=true:=by rw[YK];exact h9
         have Ah:=@Yh (badT l (zn:Int)=true) (by rw[Av.o,Yb h9];simp);clear h7 h9;have Ai:=@Yh (oddT l t=true) (ZC7 (x:=S[k]) A0.o.1 (by rw[Au.o];exact Yq Aa) (by rw[Ab.o];exact Ah.o));obtain⟨e0,e1,e2,e3,e4⟩:=cell5 (TN.o.old K1.o Am.o.2);have M2:=TN.o.old K2.o Ay.o;obtain⟨f0,f1,f2,f3,f4⟩:=cell5 M2;have g0:=M2.free 0;have g1:=M2.free 1;have g2:=M2.free 2;have g3:=M2.free 3;have g4:=M2.free 4;clear M2;go_wp2_with fail;refine bodyPost_ret (v:=.tuple #[.agg #[.int .i64 t.kind,.string t.name,.int .i64 t.n,.slice wo q wc,.slice ko q kc],.bool false]) (by simp[results,Tryz.results162,go_sem,f0,f1,f2,f3,f4]) rfl ?_;exact .inl ⟨Ai.o,_,_,_,_,_,_,rfl,Zc0 (A6.o _ TN.o.any) A5.o _ _ _ _ _⟩
        ·have AA:(kp==9)=false:=by rw[Yc];exact h9
         have Ah:=@Yh (badT l (zn:Int)=false) (by rw[Av.o,Ya h7,Ya h9];rfl);clear h7 h9
         have AY:=Yh (show ∀j (h:j<S.length),j<k+1->badT l S[j].2=false from fun j h h2=>by
          rcases Ym (Ys h2)with h3|h3
          ·exact HBAD.o j h h3
          ·subst h3;rw[Ab.o];exact Ah.o)
         obtain⟨nx,hnx⟩:∃nx:Bool,(if h2:k+1<S.length then decide (S[k+1].2=(zn:Int))else false)=nx:=⟨_,rfl⟩
         have AZ:=Yh hnx;have AO:IntKind.i64.wrap ((k:Int)+1)=(k:Int)+1:=by rw[IntWalk.i64_in _ (by omega)]
         have AP:(0:Int)<=(k:Int)+1:=by omega
         have AQ:((k:Int)+1).toNat=k+1:=by omega
         by_cases hkN:k+1<N
         have A2:k+1<S.length:=by rw[A8.o];exact hkN
         obtain⟨g',eg,-,hcS'⟩:=Z84 A8.o TN.o.tm (by omega)
         injection eg with eg
         injection eg with eg
         subst eg;have cN:=(hcS' (k+1) A2).2;obtain⟨zy,hzy⟩:=Yn (S[k+1].2);rw[dif_pos A2,hzy]at hnx;rw[hzy]at cN;have AB:decide ((k:Int)+1<(N:Int))=true:=Yb (by omega);have B0:((k:Int)+1<(N:Int)):=by omega
         have AC:=Yh hzy;clear hcS' hzy
         cases nx
         have Be:(zy==(zn:Int))=false:=by rw[Yc];exact of_decide_eq_false hnx
         clear hnx;go_wp2_with fail;go_quiet (fail)
         rename_i nq
         have AD:=Yh (show(pre++[(bx,(zn:Int))])++lasts (S.drop (k+1))=lasts S from by
          rw[<-HPRE.o,ZH2 Aa,dif_pos A2,if_neg (by rw[AC.o,Ab.o];exact fun e=>by have:=AZ.o;rw[dif_pos A2,AC.o,Yb e]at this;cases this),Ab.o];simp)
         clear cN AB B0 AO AP AQ Az AA;rotate_left
         ·have Be:(zy==(zn:Int))=true:=by rw[YK];exact Yf hnx
          clear hnx;go_wp2_with fail;go_quiet (fail)
          rename_i nq
          have AD:=Yh (show pre++lasts (S.drop (k+1))=lasts S from by
           rw[<-HPRE.o,ZH2 Aa,dif_pos A2,if_pos (by rw[AC.o,Ab.o];have:=AZ.o;rw[dif_pos A2,AC.o]at this;exact Yf this)])
          have TZ:=Yh (TN.o.kept (below_drewN (Y8 wn.heap.size wn) nq));have AR:=@Yh (pre.length<=k+1) (by have:=HPL.o;omega);clear cN AB B0 AO AP AQ Az AA hwn hxb x0 x1 cK AX cA cB;go_wp2_with fail;go_roundw
          case rel=>exact⟨k+1,_,_,pre,by omega,by go_num,AD,AR,AY,TZ⟩
          case measure=>first|(simp[intOf];done)|(simp[intOf];omega)
         have AB:decide ((k:Int)+1<(N:Int))=false:=Ya (by omega);clear hnx;go_wp2_with fail;go_quiet (fail)
         rename_i nq
         have AD:=Yh (show(pre++[(bx,(zn:Int))])++lasts (S.drop (k+1))=lasts S from by
          rw[<-HPRE.o,ZH2 Aa,dif_neg (by rw[A8.o];exact hkN),Ab.o];simp)
         clear AB AO AP AQ Az AA
         all_goals
          obtain⟨wz,hwz⟩:=Yn (wn.drewN nq);have Al:=TN.o.kept (below_drewN (Y8 wn.heap.size wn) nq);have Aw:=KX.o.below (below_drewN (Y8 wn.heap.size wn) nq);rw[hwz]at Al Aw ⊢;obtain⟨ws1,hws1⟩:∃x,ws0++pre.map (fun x=>wordOf x.1)=x:=⟨_,rfl⟩
          obtain⟨ks1,hks1⟩:=Yn (ks0++pre.map (·.2));have Bm:ws1.length<=40:=by rw[<-hws1,Ye,Yg];have:=HPL.o;omega
          have Bn:ks1.length<=40:=by rw[<-hks1,Ye,Yg];have:=HPL.o;omega
          have B1:=Yh (show ws0++(pre++[(bx,(zn:Int))]).map (fun x=>wordOf x.1)=ws1++[wd]/\ks0++(pre++[(bx,(zn:Int))]).map (·.2)=ks1++[(zn:Int)]from by
           rw[<-hws1,<-hks1,<-Bc.o];simp)
          rw[hws1,hks1]at Al;have Bf:=@Yh (wv2.ownBlock≠some xb) (fun e=>by have:=Zt0 TR.o.wr xb e;have:=AN.o;omega);have TZ:=Yh Al;have AS:=Yh Aw;have Aq:=@Yh (∀b,wz.heap.size<=b->wv2.ownBlock≠some b) (fun b hb e=>by have:=Zt0 TZ.o.wr b e;omega);have Ao:=Al.box.cell 3;have Ap:=Al.box.cell 4;have Bg:=Aw.cell 0;have Bh:=Aw.cell 1;simp only[List.getElem?_toArray,List.getElem?_cons_zero,List.getElem?_cons_succ]at Ao Ap Bg Bh;have AR:=@Yh ((pre++[(bx,(zn:Int))]).length<=k+1) (by rw[Ye];have:=HPL.o;simp;omega);clear Al Aw hwz hws1 hks1 hwn hxb x0 x1 cK AX cA cB;go_wp2_with fail;refine GoG.start [(13,⟨mb,3,none⟩,wv2),(15,⟨mb,4,none⟩,kv2),(4,⟨xb,0,none⟩,.string wd),(10,⟨xb,1,none⟩,.int .i64 (zn:Int))] (by kernel_rfl) ?_ ?_
          ·exact(Kc (by first|assumption|simp[*]) (Kc (by first|assumption|simp[*]) (Kc (by first|assumption|simp[*]) (Kc (by first|assumption|simp[*]) Kn))))
          refine GoG.fr 0 ?_;refine GoG.s1 1 0 [13] ?_;refine GoG.fr 2 ?_;refine GoG.s1 3 2 [4] ?_;refine GoG.fr 6 ?_;refine GoG.s1 7 1 [15] ?_;refine GoG.fr 8 ?_;refine GoG.s1 9 3 [10] ?_;refine GoG.two (i:=4) (j:=10) rfl rfl (by kernel_rfl) (fun K hK=>?_) (fun K hK=>?_);have T1:=Yh (TZ.o.kept (show Below wz.heap.size wz (wz.alloc (.cells #[.string wd] 9)).drew from((Y8 _ _).alloc (Yk _) _).drew));have K1:=@Yh (BlockAt (wz.alloc (.cells #[.string wd] 9)).drew (wz.heap.size) #[.string wd] 9) (BlockAt.new _ _ _);go_simp;refine hK.out _ _ (Kc (T1.o.box.cell 3) (Kc (T1.o.box.cell 4) (Ku (Kc ((AS.o.below ((Y8 _ _).alloc (Yk _) _).drew).cell 1) Kn)))) ?_;clear hK K
          try simp only[Act.put,YB,YC,YD,YE,YF,YG]
          refine GoG.two (i:=5) (j:=10) rfl rfl (by kernel_rfl) (fun K hK=>?_) (fun K hK=>?_);obtain⟨v5,w5,hap,hown,hgrow,-,hblk⟩:=run_append_own_at (P:=Tryz.prog) (wz.alloc (.cells #[.string wd] 9)).drew W3.heap.size 42 42 9 s0 (.string ⟨#[]⟩) 1 16 Tryz.underlying42 hsi hs0 hs1 hs2 rfl (by decide) wv2 ws1.length (strC ws1) T1.o.wr ⟨wz.heap.size,0,none⟩ 1 1 [.string wd] rfl (Zr K1.o) (fun u hu=>by rw[Yo.1 hu];rfl) (by unfold maxLen;omega) (by omega) T1.o.gr.size;have T5:=Yh (T1.o.pushW hgrow hown hblk);obtain⟨aov5,acv5,ev5,-,-⟩:=ZE T5.o.wr;rw[Ye,List.length_singleton]at ev5;subst ev5;have Bi:=Yh (Zz (AS.o.below ((Y8 _ _).alloc (Yk _) _).drew) (Bf.o) hgrow);rw[if_pos (by rfl)];refine Zb _ _ _ rfl _ _ _ rfl rfl hap ?_;refine hK.out _ _ (Kc (T5.o.box.cell 3) (Kc (T5.o.box.cell 4) (Ku (Kc (Bi.o.cell 1) Kn)))) ?_;clear hK K hap hown hgrow hblk;refine GoG.fr 12 ?_;have T7:=Yh (T5.o.kept (show Below w5.heap.size w5 (w5.alloc (.cells #[.int .i64 (zn:Int)] 3))from(Y8 _ _).alloc (Yk _) _));have K7:=@Yh (BlockAt (w5.alloc (.cells #[.int .i64 (zn:Int)] 3)) (w5.heap.size) #[.int .i64 (zn:Int)] 3) (BlockAt.new _ _ _);refine GoG.on 10 fun K hK=>?_
          go_simp;refine hK.out _ _ (Kc (T7.o.box.cell 3) (Kc (T7.o.box.cell 4) (Ku (Ku Kn)))) ?_;clear hK K
          try simp only[Act.put,YB,YC,YD,YE,YF,YG]
          obtain⟨v6,w6,hap,hown,hgrow,-,hblk⟩:=run_append_own_at (P:=Tryz.prog) (w5.alloc (.cells #[.int .i64 (zn:Int)] 3)) W3.heap.size 26 26 3 k0 (.int .i64 0) 1 8 Tryz.underlying26 hki hk0 hk1 hk2 rfl (by decide) kv2 ks1.length (intC ks1) T7.o.kr ⟨w5.heap.size,0,none⟩ 1 1 [.int .i64 (zn:Int)] rfl (Zr K7.o) (fun u hu=>by rw[Yo.1 hu];rfl) (by unfold maxLen;omega) (by omega) T7.o.gr.size;have T6:=Yh (T7.o.pushK hgrow hown hblk);obtain⟨aov6,acv6,ev6,-,-⟩:=Zi T6.o.kr;rw[Ye,List.length_singleton]at ev6;subst ev6;refine GoG.on 11 fun K hK=>?_
          rw[if_pos (by rfl)];refine Zb _ _ _ rfl _ _ _ rfl rfl hap ?_;refine hK.out _ _ (Kc (T6.o.box.cell 3) (Kc (T6.o.box.cell 4) (Ku (Ku Kn)))) ?_;clear hK K hap hown hgrow hblk
          try simp only[Act.put,YB,YC,YD,YE,YF,YG]
          rotate_left;have T2:=Yh (TZ.o.kept (show Below wz.heap.size wz ((wz.alloc (.cells #[.string wd] 9)).alloc (.cells #[.int .i64 (zn:Int)] 3)).drew from(((Y8 _ _).alloc (Yk _) _).alloc (by simp) _).drew));have K2:=@Yh (BlockAt ((wz.alloc (.cells #[.string wd] 9)).alloc (.cells #[.int .i64 (zn:Int)] 3)).drew (wz.heap.size+1) #[.int .i64 (zn:Int)] 3) ((show BlockAt ((wz.alloc (.cells #[.string wd] 9)).alloc (.cells #[.int .i64 (zn:Int)] 3)) (wz.heap.size+1) #[.int .i64 (zn:Int)] 3 from by simpa using BlockAt.new (wz.alloc (.cells #[.string wd] 9)) #[.int .i64 (zn:Int)] 3));have K3:=@Yh (BlockAt ((wz.alloc (.cells #[.string wd] 9)).alloc (.cells #[.int .i64 (zn:Int)] 3)).drew wz.heap.size #[.string wd] 9) ((BlockAt.new wz #[.string wd] 9).below ((Y8 _ _).alloc (Yk _) _).drew);go_simp;refine hK.out _ _ (Kc (T2.o.box.cell 3) (Kc (T2.o.box.cell 4) (Ku (Ku Kn)))) ?_;clear hK K
          try simp only[Act.put,YB,YC,YD,YE,YF,YG]
          obtain⟨v5,w5,hap,hown,hgrow,-,hblk⟩:=run_append_own_at (P:=Tryz.prog) ((wz.alloc (.cells #[.string wd] 9)).alloc (.cells #[.int .i64 (zn:Int)] 3)).drew W3.heap.size 42 42 9 s0 (.string ⟨#[]⟩) 1 16 Tryz.underlying42 hsi hs0 hs1 hs2 rfl (by decide) wv2 ws1.length (strC ws1) T2.o.wr ⟨wz.heap.size,0,none⟩ 1 1 [.string wd] rfl (Zr K3.o) (fun u hu=>by rw[Yo.1 hu];rfl) (by unfold maxLen;omega) (by omega) T2.o.gr.size;have T5:=Yh (T2.o.pushW hgrow hown hblk);obtain⟨aov5,acv5,ev5,-,-⟩:=ZE T5.o.wr;rw[Ye,List.length_singleton]at ev5;subst ev5;have K5:=Yh (Zz K2.o (Aq.o _ (by simp)) hgrow);refine GoG.on 5 fun K hK=>?_
          rw[if_pos (by rfl)];refine Zb _ _ _ rfl _ _ _ rfl rfl hap ?_;refine hK.out _ _ (Kc (T5.o.box.cell 3) (Kc (T5.o.box.cell 4) (Ku (Ku Kn)))) ?_;clear hK K hap hown hgrow hblk;refine GoG.fr 12 ?_;obtain⟨v6,w6,hap,hown,hgrow,-,hblk⟩:=run_append_own_at (P:=Tryz.prog) w5 W3.heap.size 26 26 3 k0 (.int .i64 0) 1 8 Tryz.underlying26 hki hk0 hk1 hk2 rfl (by decide) kv2 ks1.length (intC ks1) T5.o.kr ⟨wz.heap.size+1,0,none⟩ 1 1 [.int .i64 (zn:Int)] rfl (Zr K5.o) (fun u hu=>by rw[Yo.1 hu];rfl) (by unfold maxLen;omega) (by omega) T5.o.gr.size;have T6:=Yh (T5.o.pushK hgrow hown hblk);obtain⟨aov6,acv6,ev6,-,-⟩:=Zi T6.o.kr;rw[Ye,List.length_singleton]at ev6;subst ev6;refine GoG.on 11 fun K hK=>?_
          rw[if_pos (by rfl)];refine Zb _ _ _ rfl _ _ _ rfl rfl hap ?_;refine hK.out _ _ (Kc (T6.o.box.cell 3) (Kc (T6.o.box.cell 4) (Ku (Ku Kn)))) ?_;clear hK K hap hown hgrow hblk
          try simp only[Act.put,YB,YC,YD,YE,YF,YG]
          rotate_left;have T1:=Yh (TZ.o.kept (show Below wz.heap.size wz (wz.alloc (.cells #[.int .i64 (zn:Int)] 3)).drew from((Y8 _ _).alloc (Yk _) _).drew));have K1:=@Yh (BlockAt (wz.alloc (.cells #[.int .i64 (zn:Int)] 3)).drew (wz.heap.size) #[.int .i64 (zn:Int)] 3) (BlockAt.new _ _ _);go_simp;refine hK.out _ _ (Kc (T1.o.box.cell 3) (Kc (T1.o.box.cell 4) (Kc ((AS.o.below ((Y8 _ _).alloc (Yk _) _).drew).cell 0) (Ku Kn)))) ?_;clear hK K
          try simp only[Act.put,YB,YC,YD,YE,YF,YG]
          have T2:=Yh (TZ.o.kept (show Below wz.heap.size wz ((wz.alloc (.cells #[.int .i64 (zn:Int)] 3)).alloc (.cells #[.string wd] 9)).drew from(((Y8 _ _).alloc (Yk _) _).alloc (by simp) _).drew));have K2:=@Yh (BlockAt ((wz.alloc (.cells #[.int .i64 (zn:Int)] 3)).alloc (.cells #[.string wd] 9)).drew (wz.heap.size+1) #[.string wd] 9) ((show BlockAt ((wz.alloc (.cells #[.int .i64 (zn:Int)] 3)).alloc (.cells #[.string wd] 9)) (wz.heap.size+1) #[.string wd] 9 from by simpa using BlockAt.new (wz.alloc (.cells #[.int .i64 (zn:Int)] 3)) #[.string wd] 9));have K3:=@Yh (BlockAt ((wz.alloc (.cells #[.int .i64 (zn:Int)] 3)).alloc (.cells #[.string wd] 9)).drew wz.heap.size #[.int .i64 (zn:Int)] 3) ((BlockAt.new wz #[.int .i64 (zn:Int)] 3).below ((Y8 _ _).alloc (Yk _) _).drew);refine GoG.on 4 fun K hK=>?_
          go_simp;refine hK.out _ _ (Kc (T2.o.box.cell 3) (Kc (T2.o.box.cell 4) (Ku (Ku Kn)))) ?_;clear hK K
          try simp only[Act.put,YB,YC,YD,YE,YF,YG]
          obtain⟨v5,w5,hap,hown,hgrow,-,hblk⟩:=run_append_own_at (P:=Tryz.prog) ((wz.alloc (.cells #[.int .i64 (zn:Int)] 3)).alloc (.cells #[.string wd] 9)).drew W3.heap.size 42 42 9 s0 (.string ⟨#[]⟩) 1 16 Tryz.underlying42 hsi hs0 hs1 hs2 rfl (by decide) wv2 ws1.length (strC ws1) T2.o.wr ⟨wz.heap.size+1,0,none⟩ 1 1 [.string wd] rfl (Zr K2.o) (fun u hu=>by rw[Yo.1 hu];rfl) (by unfold maxLen;omega) (by omega) T2.o.gr.size;have T5:=Yh (T2.o.pushW hgrow hown hblk);obtain⟨aov5,acv5,ev5,-,-⟩:=ZE T5.o.wr;rw[Ye,List.length_singleton]at ev5;subst ev5;have K5:=Yh (Zz K3.o (Aq.o _ (by simp)) hgrow);refine GoG.on 5 fun K hK=>?_
          rw[if_pos (by rfl)];refine Zb _ _ _ rfl _ _ _ rfl rfl hap ?_;refine hK.out _ _ (Kc (T5.o.box.cell 3) (Kc (T5.o.box.cell 4) (Ku (Ku Kn)))) ?_;clear hK K hap hown hgrow hblk;refine GoG.fr 12 ?_;obtain⟨v6,w6,hap,hown,hgrow,-,hblk⟩:=run_append_own_at (P:=Tryz.prog) w5 W3.heap.size 26 26 3 k0 (.int .i64 0) 1 8 Tryz.underlying26 hki hk0 hk1 hk2 rfl (by decide) kv2 ks1.length (intC ks1) T5.o.kr ⟨wz.heap.size,0,none⟩ 1 1 [.int .i64 (zn:Int)] rfl (Zr K5.o) (fun u hu=>by rw[Yo.1 hu];rfl) (by unfold maxLen;omega) (by omega) T5.o.gr.size;have T6:=Yh (T5.o.pushK hgrow hown hblk);obtain⟨aov6,acv6,ev6,-,-⟩:=Zi T6.o.kr;rw[Ye,List.length_singleton]at ev6;subst ev6;refine GoG.on 11 fun K hK=>?_
          rw[if_pos (by rfl)];refine Zb _ _ _ rfl _ _ _ rfl rfl hap ?_;refine hK.out _ _ (Kc (T6.o.box.cell 3) (Kc (T6.o.box.cell 4) (Ku (Ku Kn)))) ?_;clear hK K hap hown hgrow hblk
          try simp only[Act.put,YB,YC,YD,YE,YF,YG]
          rotate_left
          all_goals
           have AH:=T6.o.box.free 3;have Ar:=T6.o.box.cell 3;simp only[List.getElem?_toArray,List.getElem?_cons_zero,List.getElem?_cons_succ]at Ar;have TA:=Yh (T6.o.store3 (.slice aov5 (ws1.length+1) acv5));refine GoG.on 13 fun K hK=>?_
           go_simp;clear AH Ar;refine hK.out _ _ (Ku (Kc (TA.o.box.cell 4) (Ku (Ku Kn)))) ?_;clear hK K;refine GoG.fr 14 ?_;have AI:=TA.o.box.free 4;have As:=TA.o.box.cell 4;simp only[List.getElem?_toArray,List.getElem?_cons_zero,List.getElem?_cons_succ]at As;have TB:=Yh (TA.o.store4 (.slice aov6 (ks1.length+1) acv6));refine GoG.on 15 fun K hK=>?_
           go_simp;clear AI As;refine hK.out _ _ (Ku (Ku (Ku (Ku Kn)))) ?_;clear hK K
           try simp only[Act.put,YB,YC,YD,YE,YF,YG]
           refine GoG.done (by kernel_rfl) ?_ _;go_wp2_with fail;go_roundw
           case rel=>exact⟨k+1,_,_,pre++[(bx,(zn:Int))],by omega,by go_num,AD,AR,AY,Yh (by rw[B1.o.1,B1.o.2];exact TB.o)⟩
           case measure=>first|(simp[intOf];done)|(simp[intOf];omega)
      ·have Ah:=@Yh (badT l (zn:Int)=true) (by rw[Av.o];rfl)
       have Ai:=@Yh (oddT l t=true) (ZC7 (x:=S[k]) A0.o.1 (by rw[Au.o];exact Yq Aa) (by rw[Ab.o];exact Ah.o));obtain⟨e0,e1,e2,e3,e4⟩:=cell5 (TN.o.old K1.o Am.o.2);have M2:=TN.o.old K2.o Ay.o;obtain⟨f0,f1,f2,f3,f4⟩:=cell5 M2;have g0:=M2.free 0;have g1:=M2.free 1;have g2:=M2.free 2;have g3:=M2.free 3;have g4:=M2.free 4;clear M2;go_wp2_with fail;refine bodyPost_ret (v:=.tuple #[.agg #[.int .i64 t.kind,.string t.name,.int .i64 t.n,.slice wo q wc,.slice ko q kc],.bool false]) (by simp[results,Tryz.results162,go_sem,f0,f1,f2,f3,f4]) rfl ?_;exact .inl ⟨Ai.o,_,_,_,_,_,_,rfl,Zc0 (A6.o _ TN.o.any) A5.o _ _ _ _ _⟩
    ·obtain rfl:k=N:=by omega
     obtain⟨aw,cw,ew,-,hcw⟩:=ZE TR.o.wr;obtain⟨ak,ck,ek,-,hck⟩:=Zi TR.o.kr
     have B2:pre=lasts S:=by
      have:=HPRE.o;rw[List.drop_eq_nil_of_le (by rw[A8.o];exact Yk _)]at this
      simpa [lasts] using this
     obtain⟨hW,hK⟩:=ZIa (L:=l.length) A0.o.1 A0.o.2.1 A0.o.2.2 Au.o AE.o B2;have Ai:=@Yh (oddT l t=false) (Zjd A0.o.1 (by rw[Au.o];exact fun j hj=>HBAD.o j hj (by rw[<-A8.o];exact hj)));have TF:=TR.o;rw[hW,hK]at TF;rw[hW]at ew hcw;rw[hK]at ek hck;rw[HN.o]at TF ew ek hcw hck;have Aj:=Yh TF;have B3:=Yh (YH hcw hck);obtain⟨lW,hlW⟩:=Yn ((tidyT n t).words.length);obtain⟨lK,hlK⟩:=Yn ((tidyT n t).kids.length);rw[hlW]at ew;rw[hlK]at ek;subst ew;subst ek;have B4:=Yh (YH hlW hlK);obtain⟨e0,e1,e2,e3,e4⟩:=cell5 Aj.o.box;have M2:=Aj.o.old K2.o Ay.o;obtain⟨f0,f1,f2,f3,f4⟩:=cell5 M2;have g0:=M2.free 0;have g1:=M2.free 1;have g2:=M2.free 2;have g3:=M2.free 3;have g4:=M2.free 4;clear M2 TF hcw hck hW hK B2 hlW hlK TR;go_wp2_with fail;refine bodyPost_ret (v:=.tuple #[.agg #[.int .i64 t.kind,.string t.name,.int .i64 t.n,.slice aw lW cw,.slice ak lK ck],.bool true]) (by simp[results,Tryz.results162,go_sem,f0,f1,f2,f3,f4]) rfl ?_;obtain⟨aw',cw',ew',rw1,-⟩:=ZE (ZB6 Aj.o.wr An.o (.int .i64 t.kind) (.string t.name) (.int .i64 t.n) (.slice aw lW cw) (.slice ak lK ck));obtain⟨ak',ck',ek',rk1,-⟩:=Zi (ZZ5 Aj.o.kr An.o (.int .i64 t.kind) (.string t.name) (.int .i64 t.n) (.slice aw lW cw) (.slice ak lK ck))
     injection ew' with ea _ _
     injection ek' with eb _ _
     subst ea;subst eb;refine .inr ⟨Ai.o,aw,ak,cw,ck,?_,B3.o.1,B3.o.2,rw1,rk1,fun a ha=>by(subst ha;have g1:=(World.ownsRow.lt Aj.o.wr a.block rfl).1;have g2:=BW.o.size;omega),fun a ha=>by(subst ha;have g1:=(World.ownsRow.lt Aj.o.kr a.block rfl).1;have g2:=BW.o.size;omega),Zc0 (A6.o _ Aj.o.any) A5.o _ _ _ _ _⟩;unfold tyV;rw[B4.o.1,B4.o.2]
     rfl
end Go.Proofs.YtdcajkagakikiaaGreatDoor
