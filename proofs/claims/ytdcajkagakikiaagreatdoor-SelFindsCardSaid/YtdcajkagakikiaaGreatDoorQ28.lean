import Derived.Test.YtdcajkagakikiaaGreatDoorQ27
import Derived.Sort.CutIn
namespace Go.Proofs.YtdcajkagakikiaaGreatDoor
set_option maxHeartbeats 64000000
set_option linter.unusedSimpArgs false
set_option linter.unusedVariables false
open Go.RowKit
set_option maxRecDepth 100000 in
theorem ZN8(p:Option Addr)(z:Int)(w:World) :
  Calls Tryz.prog 19 #[.pointer p,.int .i64 z] w fun e w'=>e=.returned (.func (.func 44) #[] #[.pointer (some ⟨w.heap.size,0,none⟩),.pointer (some ⟨w.heap.size+1,0,none⟩)])/\w'.cell? ⟨w.heap.size,0,none⟩=some (.pointer p)/\w'.cell? ⟨w.heap.size+1,0,none⟩=some (.int .i64 z)/\w'.heap.size=w.heap.size+2/\Below w.heap.size w w':=by
 obtain⟨w1,h1,k1,q1,z1⟩:=YA w #[.pointer p] 55;obtain⟨w2,h2,k2,q2,z2⟩:=YA w1 #[.int .i64 z] 3;rw[z1]at k2 z2;have HR:=@Yh (w2.cell? ⟨w.heap.size,0,none⟩=some (.pointer p)/\w2.cell? ⟨w.heap.size+1,0,none⟩=some (.int .i64 z)/\w2.heap.size=w.heap.size+2/\Below w.heap.size w w2) (⟨(q2.cell (p:=⟨w.heap.size,0,none⟩) k1.lt).trans (k1.cell 0),k2.cell 0,z2,q1.trans (q2.mono q1.size)⟩);clear k1 q1 k2 q2 z2;go_enter Tryz.func19,Tryz.ntmps19;go_wp2_with fail;go_ret
 first|exact⟨by rw[z1],HR.o⟩|exact⟨rfl,HR.o⟩
theorem Zv1(W:World)(r:Nat)(o:Obj):SameX r W (W.putObj r o):=⟨by simp,fun b _ hc=>World.putObj_heap_other hc⟩
theorem Z21{n r:Nat}{W0 W:World}(h:Below n W0 W)(hs:n<=W.heap.size)(hr:n<=r)(o:Obj):Below n W0 (W.putObj r o):=h.grown (grownBy_putObj' W r o) hs (fun k e=>by cases e;exact hr)
theorem Z83{base wb r:Nat}(W:World)(o:Obj)(hr:base<=r):IStep base wb W (W.putObj r o):=⟨by simp,fun b hb _=>World.putObj_heap_other (by omega)⟩
theorem IStep.mono{base b2 wb:Nat}{w w':World}(h:IStep base wb w w')(hb:b2<=base):IStep b2 wb w w':=⟨h.1,fun b hl hn=>h.2 b (Yi hl hb) hn⟩
def BodyP(I Ix:List (Un×List Lk)->World->Prop)(W0:World)(tm base:Nat)(pre:List (Un×List Lk))(W:World):Exit->Act->World->Prop
 | .normal,_,W'=>I pre W'/\SameX tm W W'/\Below W0.heap.size W0 W'
 | .ret,_,W'=>Ix pre W'/\(∀b,base<=b->b<W.heap.size->W'.heap[b]? = W.heap[b]?)/\W.heap.size<=W'.heap.size/\Below W0.heap.size W0 W'
 | _,_,_=>False
theorem ZD7(Sb:Nat->Prop)(u:Un)(z wb c1 c2 tm:Nat)(W0 w:World){g:Operand}{ps:Array Tmp}{assign body:Code}{Q:Exit->Act->World->Prop}{a:Act}
  (hg:a.eval g=.func (.func 44) #[] #[.pointer (some ⟨c1,0,none⟩),.pointer (some ⟨c2,0,none⟩)]) (hps:ps.size=1) (eg:∀args w,(callFunc 44 args).run Tryz.prog w=.ok (.enter 44 args) w)
  (I Ix:List (Un×List Lk)->World->Prop)
  (hB:Below W0.heap.size W0 w) (hwb:W0.heap.size<=wb) (hSb:∀b,w.heap.size+2<=b->Sb b) (hns:¬Sb wb) (hnd:¬Sb w.heap.size/\¬Sb (w.heap.size+1)) (hK:WkAt Sb w wb u 0) (hE:Env W0) (hr:rightU u=true) (hzl:z<u.types.length)
  (hc1:w.cell? ⟨c1,0,none⟩=some (.pointer (some ⟨wb,0,none⟩))) (hc2:w.cell? ⟨c2,0,none⟩=some (.int .i64 z)) (hn1:c1≠wb/\c1≠tm) (hn2:c2≠wb/\c2≠tm) (htm:¬Sb tm/\tm≠wb/\tm<w.heap.size)
  (hI:∀pre W W',I pre W->IStep w.heap.size wb W W'->Below W0.heap.size W0 W'->I pre W')
  (hIx:∀pre W W' r,Ix pre W->(r=w.heap.size\/r=w.heap.size+1)->SameX r W W'->Below W0.heap.size W0 W'->Ix pre W')
  (hIb:∀pre W,Ix pre W->Below W0.heap.size W0 W/\W0.heap.size<=W.heap.size)
  (hI0:I [] w) (a₁:Value->Act)
  (hassign:∀(l:Nat) (vl:Value) (W:World) (K:Act->World->Prop),K (a₁ vl) W->assign.wpIn (Fence.wide.inRound l) 2 Tryz.prog (Exit.then K (fun _ _ _=>False)) { tmps:=(ps.zip #[vl]).foldl (fun t (p,v)=>t.setIfInBounds p v) a.tmps,defers:=[] } W)
  (hbody:∀(l:Nat) (pre:List (Un×List Lk)) (n:Nat) (U:Un) (es:List Sp) (ls:List Lk) (sn:List Int) (vl:Value) (W:World),I pre W->(pre++[(U,ls)]) <+: (allT u z).1->n<=6->Lok n ⟨U,es,ls,sn,0⟩->Below W0.heap.size W0 W->w.heap.size+2<=W.heap.size->WkAt Sb W wb U 0->LRow Sb W vl ls ->
   body.wpIn (Fence.wide.inRound l) 2 Tryz.prog (BodyP I Ix W0 tm w.heap.size (pre++[(U,ls)]) W) (a₁ vl) W)
  (hdone:∀(V:Un) (W:World),I (allT u z).1 W->WkAt Sb W wb V (allT u z).2->Below W0.heap.size W0 W->W.heap[w.heap.size]? = some (.deferred (some []))->Q .normal { a with defers:={ target:=.collected w.heap.size,args:=#[] }::a.defers } W)
  (hstop:∀(pre:List (Un×List Lk)) (W:World),pre <+: (allT u z).1->Ix pre W->W.heap[w.heap.size]? = some (.deferred (some []))->Code.ret.wp Tryz.prog Q { a with defers:={ target:=.collected w.heap.size,args:=#[] }::a.defers } W) :
  (Code.rangeFunc g ps assign body).wp Tryz.prog Q a w:=by
 have Ab:wb<w.heap.size:=by obtain⟨_,_,_,_,hk,_⟩:=hK;exact hk.lt
 have Ag:W0.heap.size<=w.heap.size:=hB.size;refine(wpIn_wide (n:=4)).1 ?_;refine wpIn_rangeFunc ?_;intro fn hfn;rw[show Fence.wide.round=none from rfl];obtain⟨rec,hrec⟩:∃rec:LoopState->Option Code->Loop,rec=fun st pe=>{ state:=st,pending:=pe,fn,tmps:=a.tmps,params:=ps,assign,body,defers:=w.heap.size }:=⟨_,rfl⟩
 obtain⟨W1,hW1⟩:=Yn ((w.alloc (.deferred (some []))).alloc (.loop (rec .ready none)))
 have Ac:W1.heap[w.heap.size+1]? = some (.loop (rec .ready none)):=by
  rw[<-hW1];have:=World.alloc_heap_new (w.alloc (.deferred (some []))) (.loop (rec .ready none));rwa [World.size_alloc]at this
 have Ad:W1.heap[w.heap.size]? = some (.deferred (some [])):=by
  rw[<-hW1];exact(Below.heap_alloc _ _ _ (by simp)).trans (World.alloc_heap_new w _)
 have A2:W1.heap.size=w.heap.size+2:=by rw[<-hW1];simp
 have A3:Below w.heap.size w W1:=by
  rw[<-hW1];exact((Y8 _ w).alloc (Yk _) _).alloc (by simp) _
 have A6:Below W0.heap.size W0 W1:=hB.trans (A3.mono hB.size);have Ae:I [] W1:=hI [] w W1 hI0 (IStep.below A3 (Yk _)) A6
 refine⟨w.heap.size+1,[{ target:=.collected w.heap.size,args:=#[] }],W1,{ target:=.fn (.func 44) #[.pointer (some ⟨c1,0,none⟩),.pointer (some ⟨c2,0,none⟩)],args:=#[.func (.yield (w.heap.size+1)) #[] #[]] },W1,44,
  #[.func (.yield (w.heap.size+1)) #[] #[]]++#[.pointer (some ⟨c1,0,none⟩),.pointer (some ⟨c2,0,none⟩)],W1,?_,?_,?_,?_,fun h=>(by cases h),?_⟩
 ·rw[<-hW1,hrec];exact run_enterLoop_outer _ _ _ _ _
 ·simp only[resolve,hg]
  simp[go_sem]
 ·intro f' hf';trivial
 ·simp[invoke,go_sem,eg]
 ·have A7:∀(jump:Option Code) (W3:World),W3.heap[w.heap.size+1]? = some (.loop { rec .ready none with state:=.busy }) ->
    (Instr.endRound (w.heap.size+1) jump).run Tryz.prog W3=.ok (.bool jump.isNone) (W3.putObj (w.heap.size+1) (.loop (rec (if jump.isNone then .ready else .done) jump))):=fun jump W3 A0=>by
   have:=run_endRound (P:=Tryz.prog) jump A0;rw[hrec]at this ⊢;exact this
  refine(callsIn_wide (n:=4-1)).2 ((Zv7 Sb u z wb c1 c2 tm (w.heap.size+1) W0 W1
   (fun pre W=>I pre W/\W.heap[w.heap.size+1]? = some (.loop (rec .ready none))/\W.heap[w.heap.size]? = some (.deferred (some [])))
   (fun pre W=>Ix pre W/\W.heap[w.heap.size+1]? = some (.loop (rec .done (some .ret)))/\W.heap[w.heap.size]? = some (.deferred (some [])))
   A6 hwb (by rw[A2];exact hSb) hns (hK.below A3) hE hr hzl (YR A3 hc1) (YR A3 hc2) hn1 hn2 ⟨htm.1,htm.2.1,by rw[A2];omega⟩
   (fun pre W W' hj hs hb=>⟨hI pre W W' hj.1 (hs.mono (by rw[A2];omega)) hb,(hs.2 _ (by rw[A2];omega) (by omega)).trans hj.2.1,(hs.2 _ (by rw[A2];omega) (by omega)).trans hj.2.2⟩)
   ?_ ⟨Ae,Ac,Ad⟩).mono ?_)
  ·rintro pre n U es ls sn vl W ⟨hi,hl,hk⟩ hpre hn hlok hbW hsz hkW hrow
   rw[A2]at hsz;have hy:=run_yield (P:=Tryz.prog) (args:=#[vl]) hl (by rw[hrec];exact hps.symm);rw[hrec]at hy;refine⟨fn,_,assign,body,hy,roundIn_of_wpIn hfn (hassign _ vl W _ ?_)⟩;clear hy;refine⟨_,run_beginRound hl (by rw[hrec]),?_⟩;obtain⟨W2,hW2⟩:=Yn (W.putObj (w.heap.size+1) (.loop { rec .ready none with state:=.busy }));have Ah:W2.heap.size=W.heap.size:=by rw[<-hW2];simp
   have A4:SameX (w.heap.size+1) W W2:=by rw[<-hW2];exact Zv1 _ _ _
   have A8:Below W0.heap.size W0 W2:=by rw[<-hW2];exact Z21 hbW hbW.size (by omega) _
   have A9:W2.heap[w.heap.size+1]? = some (.loop { rec .ready none with state:=.busy }):=by rw[<-hW2];exact World.putObj_heap_same (by omega)
   have Aa:W2.heap[w.heap.size]? = some (.deferred (some [])):=(A4.2 _ (by omega) (by omega)).trans hk;have Af:I pre W2:=by rw[<-hW2];exact hI pre W _ hi (Z83 W _ (Nat.le_succ _)) (by rw[hW2];exact A8)
   rw[hW2];refine wpIn_mono (hbody (w.heap.size+1) pre n U es ls sn vl W2 Af hpre hn hlok A8 (by omega) (hkW.keepX A4 hnd.2 (by omega)) (hrow.keep (Zi1 A4 hnd.2))) ?_;rintro e a3 W3 hp
   cases e with
   | normal =>
    obtain⟨hi3,hx3,hb3⟩:=hp;have A0:=(hx3.2 (w.heap.size+1) (by omega) (by omega)).trans A9;have A5:=(hx3.2 w.heap.size (by omega) (by omega)).trans Aa;have A1:=Z21 hb3 hb3.size (show W0.heap.size<=w.heap.size+1 by omega) (.loop (rec .ready none));refine⟨_,_,A7 none W3 A0,.inl ⟨rfl,⟨hI _ W3 _ hi3 (Z83 W3 _ (Nat.le_succ _)) A1,World.putObj_heap_same (Yy.1 A0).1,(World.putObj_heap_other (by omega)).trans A5⟩,⟨by rw[World.putObj_size];have:=hx3.1;omega,fun b hb hc=>?_⟩,A1⟩⟩
    by_cases he:b=w.heap.size+1
    ·subst he
     exact(World.putObj_heap_same (Yy.1 A0).1).trans hl.symm
    ·rw[World.putObj_heap_other he,hx3.2 b (by omega) hc,A4.2 b hb he]
   | ret =>
    obtain⟨hx3,hkeep,hs3,hb3⟩:=hp;have A0:=(hkeep (w.heap.size+1) (by omega) (by omega)).trans A9;have A5:=(hkeep w.heap.size (by omega) (by omega)).trans Aa;exact⟨_,_,A7 (some .ret) W3 A0,.inr ⟨rfl,hIx _ W3 _ _ hx3 (.inr rfl) (Zv1 _ _ _) (Z21 hb3 hb3.size (by omega) _),World.putObj_heap_same (Yy.1 A0).1,(World.putObj_heap_other (by omega)).trans A5⟩⟩
   | exit id=>exact hp.elim
   | goto t=>exact hp.elim
   | panic ch=>exact hp.elim
   | outgrown=>exact hp.elim
  ·rintro e W2 ⟨⟨v,rfl⟩,(⟨V,⟨hi,hl,hk⟩,hwk,hb⟩|⟨pre,hpre,hx,hl,hk⟩)⟩
   ·have A1:=fun o=>Z21 hb hb.size (show W0.heap.size<=w.heap.size+1 by omega) o
    refine⟨none,_,by have:=run_endLoop (P:=Tryz.prog) hl (by rw[hrec];simp);rw[hrec]at this;exact this,?_⟩;exact hdone V _ (hI _ W2 _ hi (Z83 W2 _ (Nat.le_succ _)) (A1 _)) (hwk.keepX (Zv1 _ _ _) hnd.2 (by omega)) (A1 _) ((World.putObj_heap_other (by omega)).trans hk)
   ·have A1:=fun o=>Z21 (hIb _ _ hx).1 (hIb _ _ hx).2 (show W0.heap.size<=w.heap.size+1 by omega) o
    refine⟨some .ret,_,by have:=run_endLoop (P:=Tryz.prog) hl (by rw[hrec];simp);rw[hrec]at this;exact this,?_⟩;exact wpIn_wide.2 (hstop pre _ hpre (hIx _ W2 _ _ hx (.inr rfl) (Zv1 _ _ _) (A1 _)) ((World.putObj_heap_other (by omega)).trans hk))
attribute [local go_sem] Oper.semAt_some
def PFRes(Sb:Nat->Prop)(w:World)(R:Un×Se×Int)(e:Ending)(w':World):Prop:=∃ao no ac nc po pc,e=.returned (.tuple #[.agg #[.slice ao R.1.types.length ac,.slice no R.1.named.length nc],.agg #[.bool R.2.1.meth,.int .i64 R.2.1.typ,.bool R.2.1.ptr,.bool R.2.1.via,.slice po R.2.1.path.length pc],.int .i64 R.2.2])/\UnS Sb w' ao no ac nc R.1/\IRowS Sb w' po R.2.1.path/\R.2.1.path.length<=pc/\Below w.heap.size w w'
def ResC(W:World)(r6 r7 r8:Nat)(ao no po:Option Addr)(tl nl ac nc pl pc:Nat)(s:Se)(e:Int):Prop:=BlockAt W r6 #[.slice ao tl ac,.slice no nl nc] 25/\BlockAt W r7 #[.bool s.meth,.int .i64 s.typ,.bool s.ptr,.bool s.via,.slice po pl pc] 28/\BlockAt W r8 #[.int .i64 e] 30
theorem ResC.keep{W W':World}{r6 r7 r8:Nat}{ao no po:Option Addr}{tl nl ac nc pl pc:Nat}{s:Se}{e:Int}(h:ResC W r6 r7 r8 ao no po tl nl ac nc pl pc s e)(hb:∀b,b=r6\/b=r7\/b=r8->W'.heap[b]? = W.heap[b]?):ResC W' r6 r7 r8 ao no po tl nl ac nc pl pc s e:=
 ⟨(hb _ (.inl rfl)).trans h.1,(hb _ (.inr (.inl rfl))).trans h.2.1,(hb _ (.inr (.inr rfl))).trans h.2.2⟩
theorem ResC.below{W W':World}{r6 r7 r8:Nat}{ao no po:Option Addr}{tl nl ac nc pl pc:Nat}{s:Se}{e:Int}(h:ResC W r6 r7 r8 ao no po tl nl ac nc pl pc s e)(hb:Below W.heap.size W W'):ResC W' r6 r7 r8 ao no po tl nl ac nc pl pc s e:=⟨h.1.below hb,h.2.1.below hb,h.2.2.below hb⟩
def ResAt(Sb:Nat->Prop)(w W:World)(r6 r7 r8:Nat)(R:Un×Se×Int):Prop:=∃ao no ac nc po pc,ResC W r6 r7 r8 ao no po R.1.types.length R.1.named.length ac nc R.2.1.path.length pc R.2.1 R.2.2/\UnS Sb W ao no ac nc R.1/\IRowS Sb W po R.2.1.path/\R.2.1.path.length<=pc/\Below w.heap.size w W
theorem ResAt.keep{Sb:Nat->Prop}{w W W':World}{r6 r7 r8 r:Nat}{R:Un×Se×Int}(h:ResAt Sb w W r6 r7 r8 R)(hx:SameX r W W')(hr:r≠r6/\r≠r7/\r≠r8)(hn:¬Sb r)(hb:Below w.heap.size w W'):ResAt Sb w W' r6 r7 r8 R:=by
 obtain⟨ao,no,ac,nc,po,pc,⟨h1,h2,h3⟩,h4,h5,h6,-⟩:=h;exact⟨ao,no,ac,nc,po,pc,⟨hx.block h1 (Ne.symm hr.1),hx.block h2 (Ne.symm hr.2.1),hx.block h3 (Ne.symm hr.2.2)⟩,h4.same (Zi1 hx hn),Z7 h5 (Zi1 hx hn),h6,hb⟩
def set8R(W:World)(r6 r7 r8:Nat)(v0 v1 v2 v3 v4 v5 v6 v7:Value):World:=(((((((W.setCell ⟨r6,0,none⟩ v0).setCell ⟨r6,1,none⟩ v1).setCell ⟨r7,0,none⟩ v2).setCell ⟨r7,1,none⟩ v3).setCell ⟨r7,2,none⟩ v4).setCell ⟨r7,3,none⟩ v5).setCell ⟨r7,4,none⟩ v6).setCell ⟨r8,0,none⟩ v7
theorem Zm7{W W':World}{r6 r7 r8:Nat}{ao no po:Option Addr}{tl nl ac nc pl pc:Nat}{s:Se}{e:Int}(h:ResC W r6 r7 r8 ao no po tl nl ac nc pl pc s e)(hne:r6≠r7/\r6≠r8/\r7≠r8)(ao2 no2 po2:Option Addr)(tl2 nl2 ac2 nc2 pl2 pc2:Nat)(s2:Se)(e2:Int)
  (hW:set8R W r6 r7 r8 (.slice ao2 tl2 ac2) (.slice no2 nl2 nc2) (.bool s2.meth) (.int .i64 s2.typ) (.bool s2.ptr) (.bool s2.via) (.slice po2 pl2 pc2) (.int .i64 e2)=W'):ResC W' r6 r7 r8 ao2 no2 po2 tl2 nl2 ac2 nc2 pl2 pc2 s2 e2:=by
 obtain⟨h1,h2,h3⟩:=h;subst hW;unfold set8R;refine⟨?_,?_,?_⟩
 ·have:=((((((h1.set 0 (.slice ao2 tl2 ac2)).set 1 (.slice no2 nl2 nc2)).other hne.1 0 (.bool s2.meth)).other hne.1 1 (.int .i64 s2.typ)).other hne.1 2 (.bool s2.ptr)).other hne.1 3 (.bool s2.via)).other hne.1 4 (.slice po2 pl2 pc2) |>.other hne.2.1 0 (.int .i64 e2)
  simpa using this
 ·have:=(((((((h2.other (Ne.symm hne.1) 0 (.slice ao2 tl2 ac2)).other (Ne.symm hne.1) 1 (.slice no2 nl2 nc2)).set 0 (.bool s2.meth)).set 1 (.int .i64 s2.typ)).set 2 (.bool s2.ptr)).set 3 (.bool s2.via)).set 4 (.slice po2 pl2 pc2)).other hne.2.2 0 (.int .i64 e2)
  simpa using this
 ·have:=(((((((h3.other (Ne.symm hne.2.1) 0 (.slice ao2 tl2 ac2)).other (Ne.symm hne.2.1) 1 (.slice no2 nl2 nc2)).other (Ne.symm hne.2.2) 0 (.bool s2.meth)).other (Ne.symm hne.2.2) 1 (.int .i64 s2.typ)).other (Ne.symm hne.2.2) 2 (.bool s2.ptr)).other (Ne.symm hne.2.2) 3 (.bool s2.via)).other (Ne.symm hne.2.2) 4 (.slice po2 pl2 pc2)).set 0 (.int .i64 e2)
  simpa using this
theorem Z30{W W':World}{r6 r7 r8:Nat}{v0 v1 v2 v3 v4 v5 v6 v7:Value}(hW:set8R W r6 r7 r8 v0 v1 v2 v3 v4 v5 v6 v7=W'):W'.heap.size=W.heap.size/\∀b,b≠r6->b≠r7->b≠r8->W'.heap[b]? = W.heap[b]?:=by
 subst hW;unfold set8R;refine⟨by simp,fun b h6 h7 h8=>?_⟩;rw[Y9 _ _ _ _ h8,Y9 _ _ _ _ h7,Y9 _ _ _ _ h7,Y9 _ _ _ _ h7,Y9 _ _ _ _ h7,Y9 _ _ _ _ h7,Y9 _ _ _ _ h6,Y9 _ _ _ _ h6]
theorem Zc2{W0 W W':World}{n r6 r7 r8:Nat}{v0 v1 v2 v3 v4 v5 v6 v7:Value}(hW:set8R W r6 r7 r8 v0 v1 v2 v3 v4 v5 v6 v7=W')(h:Below n W0 W)(hr:n<=r6/\n<=r7/\n<=r8):Below n W0 W':=by
 subst hW;exact(((((((h.setCell hr.1 _).setCell hr.1 _).setCell hr.2.1 _).setCell hr.2.1 _).setCell hr.2.1 _).setCell hr.2.1 _).setCell hr.2.1 _).setCell hr.2.2 _
theorem Zj9{Sb:Nat->Prop}{W W':World}{r6 r7 r8:Nat}{v0 v1 v2 v3 v4 v5 v6 v7:Value}(hW:set8R W r6 r7 r8 v0 v1 v2 v3 v4 v5 v6 v7=W')(hn:¬Sb r6/\¬Sb r7/\¬Sb r8):SameS Sb W W':=⟨by rw[(Z30 hW).1];exact Yk _,fun b o hb hs=>World.cell?_of_block (a:=⟨b,o,none⟩) ((Z30 hW).2 b (fun e=>hn.1 (e▸hs)) (fun e=>hn.2.1 (e▸hs)) (fun e=>hn.2.2 (e▸hs)))⟩
theorem Zo1{Sb:Nat->Prop}{w W W':World}{r6 r7 r8:Nat}{e:Int}(h:ResC W r6 r7 r8 none none none 0 0 0 0 0 0 noSe 0)(hne:r6≠r7/\r6≠r8/\r7≠r8)(hge:w.heap.size<=r6/\w.heap.size<=r7/\w.heap.size<=r8)(hb:Below w.heap.size w W)
  (hW:set8R W r6 r7 r8 (.slice none 0 0) (.slice none 0 0) (.bool false) (.int .i64 0) (.bool false) (.bool false) (.slice none 0 0) (.int .i64 e)=W'):ResAt Sb w W' r6 r7 r8 (noUn,noSe,e):=
 ⟨none,none,0,0,none,0,Zm7 h hne none none none 0 0 0 0 0 0 noSe e hW,Zj0 _ _,.inl rfl,Yk _,Zc2 hW hb hge⟩
theorem ZL0{w:World}{r b o:Nat}{v:Value}(h:w.cell? ⟨b,o,none⟩=some v)(hne:b≠r)(v0 v1:Value):((w.setCell ⟨r,0,none⟩ v0).setCell ⟨r,1,none⟩ v1).cell? ⟨b,o,none⟩=some v:=
 (World.cell?_of_block (a:=⟨b,o,none⟩) ((Y9 _ _ _ _ hne).trans (Y9 _ _ _ _ hne))).trans h
theorem Zx6{w:World}{r q b o:Nat}{v:Value}(h:w.cell? ⟨b,o,none⟩=some v)(hne:b≠r)(hnq:b≠q)(v0 v1 v2 v3 v4 v5 v6:Value):(((((((w.setCell ⟨r,0,none⟩ v0).setCell ⟨r,1,none⟩ v1).setCell ⟨q,0,none⟩ v2).setCell ⟨q,1,none⟩ v3).setCell ⟨q,2,none⟩ v4).setCell ⟨q,3,none⟩ v5).setCell ⟨q,4,none⟩ v6).cell? ⟨b,o,none⟩=some v:=
 (World.cell?_of_block (a:=⟨b,o,none⟩) ((Y9 _ _ _ _ hnq).trans ((Y9 _ _ _ _ hnq).trans ((Y9 _ _ _ _ hnq).trans ((Y9 _ _ _ _ hnq).trans ((Y9 _ _ _ _ hnq).trans ((Y9 _ _ _ _ hne).trans (Y9 _ _ _ _ hne)))))))).trans h
theorem ZM3{Sb:Nat->Prop}{w W:World}{r6 r7 r8:Nat}{R:Un×Se×Int}{tmps:Array Value}(h:ResAt Sb w W r6 r7 r8 R)(h6:tmps[6]? = some (.pointer (some ⟨r6,0,none⟩)))(h7:tmps[7]? = some (.pointer (some ⟨r7,0,none⟩)))(h8:tmps[8]? = some (.pointer (some ⟨r8,0,none⟩))) :
  ∃v,(results Tryz.f6 tmps).run Tryz.prog W=.ok v W/\PFRes Sb w R (.returned v) W:=by
 obtain⟨ao,no,ac,nc,po,pc,⟨g6,g7,g8⟩,gu,gp,gl,gb⟩:=h;obtain⟨c60,c61⟩:=cell2 g6;obtain⟨c70,c71,c72,c73,c74⟩:=cell5 g7;have A0:W.cell? ⟨r8,0,none⟩=some (.int .i64 R.2.2):=g8.cell 0;refine⟨_,?_,ao,no,ac,nc,po,pc,rfl,gu,gp,gl,gb⟩;simp[results,Tryz.results6,go_sem,h6,h7,h8,c60,c61,c70,c71,c72,c73,c74,A0]
theorem ResAt.sub{S R:Nat->Prop}{w W:World}{r6 r7 r8:Nat}{F:Un×Se×Int}(h:ResAt S w W r6 r7 r8 F)(hs:∀b,S b->R b):ResAt R w W r6 r7 r8 F:=by
 obtain⟨ao,no,ac,nc,po,pc,h1,h2,h3,h4,h5⟩:=h;exact⟨ao,no,ac,nc,po,pc,h1,Zf h2 (fun b _ g=>hs b g),ZJ0 h3 (fun b _ g=>hs b g),h4,h5⟩
theorem ZP2{S2 Sb:Nat->Prop}{w W:World}{r6 r7 r8 D:Nat}{R:Un×Se×Int}{tmps:Array Value}(h:ResAt S2 w W r6 r7 r8 R)(hs:∀b,S2 b->Sb b)(hD:W.heap[D]? = some (.deferred (some [])))(hr:D≠r6/\D≠r7/\D≠r8)(hn:¬S2 D)(hw:w.heap.size<=D)(h6:tmps[6]? = some (.pointer (some ⟨r6,0,none⟩)))(h7:tmps[7]? = some (.pointer (some ⟨r7,0,none⟩)))(h8:tmps[8]? = some (.pointer (some ⟨r8,0,none⟩))) :
  bodyPostM Fence.wide 4 Tryz.prog Tryz.f6 (PFRes Sb w R) .ret { tmps:=tmps,defers:=[{ target:=.collected D,args:=#[] }] } W:=by
 have hb:Below w.heap.size w W:=by obtain⟨_,_,_,_,_,_,_,_,_,_,hb⟩:=h;exact hb
 exact⟨by simp,.inl ⟨_,_,rfl,run_takeDeferred hD,ZM3 ((h.keep (Zv1 W D (.deferred none)) hr hn (Z21 hb hb.size hw _)).sub hs) h6 h7 h8⟩⟩
theorem ZEa{P:Program}{c:Code}{K:Act->World->Prop}{Q:Exit->Act->World->Prop}{a:Act}{w:World}(h:c.wp P (Exit.then K (fun _ _ _=>False)) a w):c.wp P (Exit.then K Q) a w:=
 wp_mono h (fun e a w hq=>by cases e<;>first|exact hq|exact False.elim hq)
theorem Zyd{name:ByteArray}{pre r:List (Un×List Lk)}{U:Un}{ls:List Lk}{e:Int}(h:∀p∈pre,hadT p.1 p.2 name=[]):pickT name (pre++(U,ls)::r) e=match hadT U ls name with
  | [s]=>(U,s,0)
  | _::_::_=>(noUn,noSe,9)
  | []=>pickT name r e:=by
 rw[ZZ2 name e pre _ h]
 rfl
def Fnd(Sb:Nat->Prop)(w:World)(H:List Se)(b0:Bool)(i1:Int)(b2 b3:Bool)(yo:Option Addr)(yl yc:Nat)(i5:Int)(ok:Bool):Prop:=(H=[]/\ok=false)\/∃s r z,H=s::r/\ok=true/\Sz.se z=s/\SelIn Sb w z/\b0=s.meth/\i1=s.typ/\b2=s.ptr/\b3=s.via/\yo=z.po/\yl=s.path.length/\yc=z.pc/\i5=((r.length+1:Nat):Int)
theorem Fnd.same{Sb:Nat->Prop}{w w':World}{H:List Se}{b0:Bool}{i1:Int}{b2 b3:Bool}{yo:Option Addr}{yl yc:Nat}{i5:Int}{ok:Bool}(h:Fnd Sb w H b0 i1 b2 b3 yo yl yc i5 ok)(hs:SameS Sb w w'):Fnd Sb w' H b0 i1 b2 b3 yo yl yc i5 ok:=by
 rcases h with h|⟨s,r,z,h1,h2,h3,h4,h5⟩
 ·exact .inl h
 ·exact .inr ⟨s,r,z,h1,h2,h3,h4.same hs,h5⟩
theorem Fnd.sub{S R:Nat->Prop}{w:World}{H:List Se}{b0:Bool}{i1:Int}{b2 b3:Bool}{yo:Option Addr}{yl yc:Nat}{i5:Int}{ok:Bool}(h:Fnd S w H b0 i1 b2 b3 yo yl yc i5 ok)(hs:∀b,b<w.heap.size->S b->R b):Fnd R w H b0 i1 b2 b3 yo yl yc i5 ok:=by
 rcases h with h|⟨s,r,z,h1,h2,h3,h4,h5⟩
 ·exact .inl h
 ·exact .inr ⟨s,r,z,h1,h2,h3,h4.sub hs,h5⟩
theorem Z0d{S R:Nat->Prop}{w:World}{v:Value}{ls:List Lk}(h:LRow S w v ls)(hs:∀b,b<w.heap.size->S b->R b):LRow R w v ls:=by
 obtain⟨lo,cap,zs,h1,h2,h3,h4,h5⟩:=h;exact⟨lo,cap,zs,h1,h2,h3.sub hs,h4,fun z hz=>(h5 z hz).sub hs⟩
theorem AG.look{Sb:Nat->Prop}{w:World}{mp:Nat}{u:Un}{ls:List Lk}{name:ByteArray}(h:AG (fun s=>decide (s=name)) Sb w mp (mhits u ls))(hns:name.size<=maxLen) :
  ∃b0 i1 b2 b3 yo yl yc i5 ok,(∀w',Below w.heap.size w w'->(Instr.lookup 65 (.map (some mp)) (.string name) true).run Tryz.prog w'=.ok (.tuple #[.agg #[.bool b0,.int .i64 i1,.bool b2,.bool b3,.slice yo yl yc,.int .i64 i5],.bool ok]) w')/\Fnd Sb w (hadT u ls name) b0 i1 b2 b3 yo yl yc i5 ok:=by
 obtain⟨n,M,h1,h2,h3,h4⟩:=h;have h5:=h3 name;rw[Zo7]at h5
 cases hm:M name with
 | none =>
  refine⟨false,0,false,false,none,0,0,0,false,fun w' hb=>FMap.miss (FMap.below h1 hb) hns (by show(M name).map _=none;rw[hm];rfl),.inl ⟨?_,rfl⟩⟩;rw[hm]at h5
  cases hH:hadT u ls name with
  | nil=>rfl
  | cons s r=>rw[hH]at h5;cases h5
 | some q =>
  rw[hm]at h5
  cases hH:hadT u ls name with
  | nil=>rw[hH]at h5;cases h5
  | cons s r =>
   rw[hH]at h5;have h6:(q.1.se,q.2)=(s,(s::r).length):=by injection h5
   injection h6 with h7 h8
   subst h7;refine⟨_,_,_,_,_,_,_,_,true,fun w' hb=>FMap.hit (v:=fV q.1 q.2) (FMap.below h1 hb) hns (by show(M name).map _=some _;rw[hm];rfl),.inr ⟨_,r,q.1,rfl,rfl,rfl,(h4 name q hm).1,rfl,rfl,rfl,rfl,rfl,rfl,rfl,?_⟩⟩;rw[h8]
   rfl
def AtF(Sb:Nat->Prop)(W:World)(H:List Se)(v12 v13:Value)(w':World):Prop:=∃fb b0 i1 b2 b3 yo yl yc i5 ok,v12=.pointer (some ⟨fb,0,none⟩)/\v13=.bool ok/\Below W.heap.size W w'/\W.heap.size<=fb/\BlockAt w' fb #[.bool b0,.int .i64 i1,.bool b2,.bool b3,.slice yo yl yc,.int .i64 i5] 63/\Fnd Sb w' H b0 i1 b2 b3 yo yl yc i5 ok
set_option maxRecDepth 100000 in
theorem Zf6(Sb:Nat->Prop)(u:Un)(ao no:Option Addr)(ac nc:Nat)(i:Int)(name:ByteArray)(w:World)(hSb:∀b,w.heap.size<=b->Sb b)(hU:UnS Sb w ao no ac nc u)(hE:Env w)(hns:name.size<=maxLen) :
  Calls Tryz.prog 6 #[unV u ao ac no nc,.int .i64 i,.string name] w (PFRes Sb w (findSe u i name)):=by
 obtain⟨F,hF⟩:=Yn (findSe u i name);have AB:=@Yh (F=if thereU u i≠0 then(noUn,noSe,thereU u i)else if(nameB name&&!blankB name)=false then(noUn,noSe,1)else selT u i name) (by rw[<-hF];rfl);rw[hF];clear hF;obtain⟨w1,h1,k1,q1,z1⟩:=YA w #[.slice ao u.types.length ac,.slice no u.named.length nc] 25;obtain⟨w2,h2,k2,q2,z2⟩:=YA w1 #[.string name] 9;obtain⟨w3,h3,k3,q3,z3⟩:=YA w2 #[.slice none 0 0,.slice none 0 0] 25;obtain⟨w4,h4,k4,q4,z4⟩:=YA w3 #[.bool false,.int .i64 0,.bool false,.bool false,.slice none 0 0] 28;obtain⟨w5,h5,k5,q5,z5⟩:=YA w4 #[.int .i64 0] 30;have B5:=@Yh (Below w.heap.size w w5) (q1.trans ((q2.mono (by omega)).trans ((q3.mono (by omega)).trans ((q4.mono (by omega)).trans (q5.mono (by omega))))));have b1:=(q2.trans ((q3.mono (by omega)).trans ((q4.mono (by omega)).trans (q5.mono (by omega)))));have b2:=(q3.trans ((q4.mono (by omega)).trans (q5.mono (by omega))));have b3:=q4.trans (q5.mono (by omega));obtain⟨ub,hub⟩:=Yn (w.heap.size);obtain⟨nb,hnb⟩:=Yn (w1.heap.size);obtain⟨r6,hr6⟩:=Yn (w2.heap.size);obtain⟨r7,hr7⟩:=Yn (w3.heap.size);obtain⟨r8,hr8⟩:=Yn (w4.heap.size);have AC:=@Yh (w.heap.size=ub/\nb=ub+1/\r6=ub+2/\r7=ub+3/\r8=ub+4/\w5.heap.size=ub+5) (by omega);have KU:=@Yh (BlockAt w5 ub _ _) (by rw[<-hub];exact k1.below b1);have KN:=@Yh (BlockAt w5 nb _ _) (by rw[<-hnb];exact k2.below b2);have AU:=@Yh (ResC w5 r6 r7 r8 none none none 0 0 0 0 0 0 noSe 0) (by rw[<-hr6,<-hr7,<-hr8];exact⟨k3.below b3,k4.below q5,k5⟩);have U5:=Yh (hU.same (SameS.below B5.o));have E5:=Yh (hE.below B5.o);have Av:=Yh (Zu9 u ao no ac nc i w5 U5.o.o E5.o);have AD:=Yh (fun W=>Zp0 name W (Yj hns (by unfold maxLen;omega)));have AJ:=Yh hSb;have HE:=Yh hE;have Af:=Yh hns;have B8:=Yh hU;obtain⟨TU,hTU⟩:=Yn (thereU u i);unfold unV at Av ⊢;rw[hTU]at Av;have Aw:=Yh hTU;obtain⟨tl,htl⟩:=Yn (u.types.length);obtain⟨nl,hnl⟩:=Yn (u.named.length);have Ba:=Yh htl;have Bb:=Yh hnl;rw[htl,hnl]at h1 KU Av ⊢;clear hTU htl hnl;obtain⟨ku0,ku1⟩:=cell2 KU.o;have Ax:w5.cell? ⟨nb,0,none⟩=some (.string name):=KN.o.cell 0;clear k1 k2 k3 k4 k5 q1 q2 q3 q4 q5 b1 b2 b3 hSb hU hE hns z1 z2 z3 z4 z5;refine(callsIn_wide (n:=4)).1 (callsIn_of_wp_marks Tryz.func6 rfl trivial ?_ rfl);refine wpIn_wide.2 ?_;simp only[Tryz.ntmps6,List.size_toArray,List.length_cons,List.length_nil,Nat.reduceAdd,Nat.reduceSub,Array.replicate_succ,Array.replicate_zero,List.push_toArray,List.append_toArray,List.nil_append,List.cons_append];go_wp2_with fail;refine Av.o.mono ?_;rintro e w6 ⟨rfl,b6⟩;have B6:=YT B5 b6;have Bc:=Yh (KU.o.below b6);have AE:=Yh (KN.o.below b6);have A2:=Yh (AU.o.below b6);have A3:=@Yh (r6≠r7/\r6≠r8/\r7≠r8) (by have:=AC.o;omega);have Ag:=@Yh (w.heap.size<=r6/\w.heap.size<=r7/\w.heap.size<=r8) (by have:=AC.o;omega);have Bd:=@Yh (w.heap.size=ub/\nb=ub+1/\r6=ub+2/\r7=ub+3/\r8=ub+4/\ub+5<=w6.heap.size) (by have:=AC.o;have:=b6.size;omega);clear b6 KU KN AU Av AC ku0 ku1 Ax h1 h2 h3 h4 h5 hub hnb hr6 hr7 hr8
 by_cases ht:TU=0
 rotate_left
 ·-- refused
  have HF:=@Yh (F=(noUn,noSe,TU)) (by rw[AB.o,Aw.o,if_pos ht]);obtain⟨c60,c61⟩:=cell2 A2.o.1;obtain⟨c70,c71,c72,c73,c74⟩:=cell5 A2.o.2.1;have Al:=A2.o.2.2.cell 0;have Am:=A2.o.1.free 0;have An:=A2.o.1.free 1;have Ao:=A2.o.2.1.free 0;have Ap:=A2.o.2.1.free 1;have Aq:=A2.o.2.1.free 2;have Ar:=A2.o.2.1.free 3;have As:=A2.o.2.1.free 4;have Ah:=A2.o.2.2.free 0;have A9:=A3.o.1;have Aa:=A3.o.2.1;have Ab:=A3.o.2.2;have At:=Ne.symm A9;have Ai:=Ne.symm Aa;have Ac:=Ne.symm Ab;obtain⟨s8,A6⟩:=Yn (((((((((w6.setCell ⟨r6,0,none⟩ (.slice none 0 0)).setCell ⟨r6,1,none⟩ (.slice none 0 0)).setCell ⟨r7,0,none⟩ (.bool false)).setCell ⟨r7,1,none⟩ (.int .i64 0)).setCell ⟨r7,2,none⟩ (.bool false)).setCell ⟨r7,3,none⟩ (.bool false)).setCell ⟨r7,4,none⟩ (.slice none 0 0)).setCell ⟨r8,0,none⟩ (.int .i64 TU)));have Ad:=Yh (Zo1 (Sb:=Sb) (e:=TU) A2.o A3.o Ag.o B6.o A6);go_wp2_with fail;rw[HF.o];exact ZM3 Ad.o rfl rfl rfl
 obtain⟨hru,hi0,hi1⟩:=Ze0 (Aw.o.trans ht);subst ht;obtain⟨z,hz⟩:∃z:Nat,i=(z:Int):=⟨i.toNat,by omega⟩
 subst hz;have Be:=@Yh (z<u.types.length) (by omega);have Bf:=Yh hru;clear hi0 hi1 hru
 cases hb:nameB name
 ·-- no name
  have HF:=@Yh (F=(noUn,noSe,1)) (by rw[AB.o,Aw.o,if_neg (fun g=>g rfl),if_pos (by rw[hb];rfl)]);have A7:=AD.o w6;rw[hb]at A7;have A7:=Yh A7;clear hb;have Ax:w6.cell? ⟨nb,0,none⟩=some (.string name):=AE.o.cell 0;obtain⟨c60,c61⟩:=cell2 A2.o.1;obtain⟨c70,c71,c72,c73,c74⟩:=cell5 A2.o.2.1;have Al:=A2.o.2.2.cell 0;have Am:=A2.o.1.free 0;have An:=A2.o.1.free 1;have Ao:=A2.o.2.1.free 0;have Ap:=A2.o.2.1.free 1;have Aq:=A2.o.2.1.free 2;have Ar:=A2.o.2.1.free 3;have As:=A2.o.2.1.free 4;have Ah:=A2.o.2.2.free 0;have A9:=A3.o.1;have Aa:=A3.o.2.1;have Ab:=A3.o.2.2;have At:=Ne.symm A9;have Ai:=Ne.symm Aa;have Ac:=Ne.symm Ab;obtain⟨s8,A6⟩:=Yn (((((((((w6.setCell ⟨r6,0,none⟩ (.slice none 0 0)).setCell ⟨r6,1,none⟩ (.slice none 0 0)).setCell ⟨r7,0,none⟩ (.bool false)).setCell ⟨r7,1,none⟩ (.int .i64 0)).setCell ⟨r7,2,none⟩ (.bool false)).setCell ⟨r7,3,none⟩ (.bool false)).setCell ⟨r7,4,none⟩ (.slice none 0 0)).setCell ⟨r8,0,none⟩ (.int .i64 1)));have Ad:=Yh (Zo1 (Sb:=Sb) (e:=1) A2.o A3.o Ag.o B6.o A6);go_wp2_with fail;refine A7.o.mono ?_;rintro e w7 ⟨rfl,rfl⟩;go_wp2_with fail;rw[HF.o];exact ZM3 Ad.o rfl rfl rfl
 cases hbl:(name.toList==[95])
 rotate_left
 ·-- the blank
  have HF:=@Yh (F=(noUn,noSe,1)) (by rw[AB.o,Aw.o,if_neg (fun g=>g rfl),if_pos (by rw[hb];show(true&&!(name.toList==[95]))=false;rw[hbl];rfl)]);have A7:=AD.o w6;rw[hb]at A7;have A7:=Yh A7;clear hb;have Ax:w6.cell? ⟨nb,0,none⟩=some (.string name):=AE.o.cell 0;obtain⟨c60,c61⟩:=cell2 A2.o.1;obtain⟨c70,c71,c72,c73,c74⟩:=cell5 A2.o.2.1;have Al:=A2.o.2.2.cell 0;have Am:=A2.o.1.free 0;have An:=A2.o.1.free 1;have Ao:=A2.o.2.1.free 0;have Ap:=A2.o.2.1.free 1;have Aq:=A2.o.2.1.free 2;have Ar:=A2.o.2.1.free 3;have As:=A2.o.2.1.free 4;have Ah:=A2.o.2.2.free 0;have A9:=A3.o.1;have Aa:=A3.o.2.1;have Ab:=A3.o.2.2;have At:=Ne.symm A9;have Ai:=Ne.symm Aa;have Ac:=Ne.symm Ab;obtain⟨s8,A6⟩:=Yn (((((((((w6.setCell ⟨r6,0,none⟩ (.slice none 0 0)).setCell ⟨r6,1,none⟩ (.slice none 0 0)).setCell ⟨r7,0,none⟩ (.bool false)).setCell ⟨r7,1,none⟩ (.int .i64 0)).setCell ⟨r7,2,none⟩ (.bool false)).setCell ⟨r7,3,none⟩ (.bool false)).setCell ⟨r7,4,none⟩ (.slice none 0 0)).setCell ⟨r8,0,none⟩ (.int .i64 1)));have Ad:=Yh (Zo1 (Sb:=Sb) (e:=1) A2.o A3.o Ag.o B6.o A6);go_wp2_with fail;refine A7.o.mono ?_;rintro e w7 ⟨rfl,rfl⟩;go_wp2_with fail;rw[HF.o];exact ZM3 Ad.o rfl rfl rfl
 have HF:=@Yh (F=pickT name (allT u z).1 (allT u z).2) (by rw[AB.o,Aw.o,if_neg (fun g=>g rfl),if_neg (by rw[hb];show ¬(true&&!(name.toList==[95]))=false;rw[hbl];simp),Zcc]);have A7:=AD.o w6;rw[hb]at A7;have A7:=Yh A7;clear hb;obtain⟨w8,h8,k8,q8,z8⟩:=YA w6 #[.slice ao tl ac,.slice no nl nc,.int .i64 0] 57;obtain⟨wb,hwb⟩:=Yn (w6.heap.size);obtain⟨w9,h9,k9,q9,z9⟩:=YA w8 #[.pointer (some ⟨wb,0,none⟩)] 55;obtain⟨pb,hpb⟩:=Yn (w8.heap.size);obtain⟨cb,hcb⟩:=Yn (w9.heap.size);have Ax:w6.cell? ⟨nb,0,none⟩=some (.string name):=AE.o.cell 0;obtain⟨ku0,ku1⟩:=cell2 Bc.o;have Bg:=@Yh (w.heap.size=ub/\nb=ub+1/\r6=ub+2/\r7=ub+3/\r8=ub+4/\ub+5<=wb/\pb=wb+1/\cb=wb+2) (by have:=Bd.o;omega);have Q9:=Yh (q8.trans (q9.mono (by omega)));have B9:=YT B6 Q9.o;have Bh:=Yh (AE.o.below Q9.o);have Bi:=Yh (A2.o.below Q9.o);have Bj:=@Yh (BlockAt w9 wb _ _) (by rw[<-hwb];exact k8.below q9);have AV:=@Yh (BlockAt w9 pb _ _) (by rw[<-hpb];exact k9);have AW:=Yh (ZN8 (some ⟨wb,0,none⟩) (z:Int) w9);have Bk:w9.cell? ⟨pb,0,none⟩=some (.pointer (some ⟨wb,0,none⟩)):=AV.o.cell 0;have Bl:=Yh hcb;clear k8 k9 q8 q9 z8 z9;go_wp2_with fail;refine A7.o.mono ?_;rintro e w7 ⟨rfl,rfl⟩;go_wp2_with fail;refine AW.o.mono ?_;rintro e wl ⟨rfl,hc1,hc2,hsz,bl⟩;rw[Bl.o]at hc1 hc2 hsz ⊢;have BL:=YT B9 bl;have AX:=Yh (Bh.o.below bl);have AY:=Yh (Bi.o.below bl);have Bm:=Yh (Bj.o.below bl);have AK:=Yh (AV.o.below bl);have Bn:=Yh hc1;have Bo:=Yh hc2;have Bp:=Yh hsz;clear hc1 hc2 hsz bl h8 h9 hwb hpb hcb Ax ku0 ku1 Bk AW A7 AD;obtain⟨S2,hS2⟩:∃S:Nat->Prop,S=fun b=>Sb b/\(b<w.heap.size\/wl.heap.size+2<=b):=⟨_,rfl⟩
 have Aj:=@Yh (∀b,S2 b↔Sb b/\(b<w.heap.size\/wl.heap.size+2<=b)) (fun b=>by rw[hS2]);have A0:=@Yh (w.heap.size=ub/\nb=ub+1/\r6=ub+2/\r7=ub+3/\r8=ub+4/\ub+5<=wb/\pb=wb+1/\cb=wb+2/\wl.heap.size=wb+4) (by have:=Bg.o;have:=Bp.o;omega);have Ae:=@Yh (∀b,w.heap.size<=b->b<wl.heap.size+2->¬S2 b) (fun b g1 g2 g=>by have:=((Aj.o b).1 g).2;omega);have Bq:=@Yh (WkAt S2 wl wb u 0) (⟨ao,no,ac,nc,by rw[Ba.o,Bb.o];exact Bm.o,(Zf B8.o (fun b g1 g2=>(Aj.o b).2 ⟨g2,.inl g1⟩)).same (SameS.below BL.o)⟩);clear hS2;go_wp2_with fail;refine ZD7 S2 u z wb cb (cb+1) ub w wl ?hg ?hps ?eg (fun pre W=>(∀p∈pre,hadT p.1 p.2 name=[])/\SameX wb wl W) (fun pre W=>ResAt S2 w W r6 r7 r8 F) ?hB ?hwb ?hSb ?hns ?hnd ?hK ?hE ?hr ?hzl ?hc1 ?hc2 ?hn1 ?hn2 ?htm ?hI ?hIx ?hIb ?hI0 ?aa1 ?hassign ?hbody ?hdone ?hstop
 case hg=>rfl
 case hps=>rfl
 case eg=>exact enters_of Tryz.func44 (by kernel_rfl) rfl
 case hB=>exact BL.o
 case hwb=>have:=A0.o;omega
 case hSb=>exact fun b g=>(Aj.o b).2 ⟨AJ.o b (by have:=A0.o;omega),.inr g⟩
 case hns=>exact Ae.o wb (by have:=A0.o;omega) (by have:=A0.o;omega)
 case hnd=>exact⟨Ae.o _ (by have:=A0.o;omega) (by omega),Ae.o _ (by have:=A0.o;omega) (by omega)⟩
 case hK=>exact Bq.o
 case hE=>exact HE.o
 case hr=>exact Bf.o
 case hzl=>exact Be.o
 case hc1=>exact Bn.o
 case hc2=>exact Bo.o
 case hn1=>have:=A0.o;omega
 case hn2=>have:=A0.o;omega
 case htm=>exact⟨Ae.o ub (by have:=A0.o;omega) (by have:=A0.o;omega),by have:=A0.o;omega,by have:=A0.o;omega⟩
 case hI=>exact fun pre W W' h hs hb=>⟨h.1,Yj h.2.1 hs.1,fun b hb hn=>(hs.2 b hb hn).trans (h.2.2 b hb hn)⟩
 case hIx=>exact fun pre W W' r h hr hx hb=>h.keep hx (by have:=A0.o;omega) (Ae.o r (by have:=A0.o;omega) (by omega)) hb
 case hIb=>exact fun pre W h=>by obtain⟨_,_,_,_,_,_,_,_,_,_,hb⟩:=h;exact⟨hb,hb.size⟩
 case hI0=>exact⟨fun p hp=>absurd hp (by simp),Yk _,fun _ _ _=>rfl⟩
 case hassign =>
  intro l vl W K hK;rw[show(#[37].zip #[vl]:Array (Nat×Value))=#[(37,vl)]by simp];simp only[List.foldl_toArray',List.foldl_cons,List.foldl_nil,List.setIfInBounds_toArray,List.set_cons_zero,List.set_cons_succ];gi_wp2_with fail;exact hK
 case hbody =>
  intro l pre n U es ls sn vl W hIW hpre hn6 hlok hbW hszW hkW hrow;obtain⟨H,hH⟩:=Yn (hadT U ls name);have HH:=Yh hH;have AL:=Yh hIW;have AM:=Yh hpre;have Br:=Yh hkW;have BW:=Yh hbW;have Ay:=@Yh (w.heap.size<=W.heap.size/\wl.heap.size+2<=W.heap.size) (⟨hbW.size,hszW⟩);have p0:W.cell? ⟨pb,0,none⟩=some (.pointer (some ⟨wb,0,none⟩)):=(Z5 hIW.2 AK.o.lt (by have:=A0.o;omega)).trans (AK.o.cell 0);have n0:W.cell? ⟨nb,0,none⟩=some (.string name):=(Z5 hIW.2 AX.o.lt (by have:=A0.o;omega)).trans (AX.o.cell 0);have Bs:=@Yh (ResC W r6 r7 r8 none none none 0 0 0 0 0 0 noSe 0) (AY.o.keep (fun b hb=>hIW.2.2 b (by have:=A0.o;omega) (by have:=A0.o;omega)))
  have AN:∀x∈ls,x.sp.path.length<=900:=fun x hx=>by
   have h1:=hlok.pl x.sp (by have:=hlok.sp;rw[<-this];exact List.mem_map_of_mem hx)
   omega
  have AO:ls.length<=400:=by
   have h1:=hlok.len.1;have h2:=congrArg List.length hlok.sp;rw[Yg]at h2
   show ls.length<=400
   have h3:ls.length=es.length:=h2;rw[h3];exact h1
  have AZ:=Yh (fun W1 (hb:Below W.heap.size W W1)=>Zr5 S2 U 0 ls vl name nb wb W1 (fun b g=>(Aj.o b).2 ⟨AJ.o b (by have:=hb.size;have:=Ay.o;omega),.inr (by have:=hb.size;have:=Ay.o;omega)⟩) (hkW.below hb) (hrow.keep (SameS.below hb)) (YR hb n0) Af.o hlok.r hlok.ls AN hlok.ml AO);have B0:=Yh (fun W1 (hb:Below W.heap.size W W1) (hlt:W.heap.size<W1.heap.size)=>Zr5 (fun b=>S2 b/\b≠W.heap.size) U 0 ls vl name nb wb W1 (fun b g=>⟨(Aj.o b).2 ⟨AJ.o b (by have:=Ay.o;omega),.inr (by have:=Ay.o;omega)⟩,by omega⟩) ((hkW.sub (fun b hb g=>⟨g,Nat.ne_of_lt hb⟩)).below hb) ((Z0d hrow (fun b hb g=>⟨g,Nat.ne_of_lt hb⟩)).keep (SameS.below hb)) (YR hb n0) Af.o hlok.r hlok.ls AN hlok.ml AO);clear hH hIW hpre hlok hbW hszW hkW hrow AN AO hn6;gi_upto_region 9 with fail
  gi_cut [12,13]from 38 (fun v12 v13 w'=>AtF S2 W H v12 v13 w')
  case first =>
   refine GoG.startIn [(12,⟨pb,0,none⟩,.pointer (some ⟨wb,0,none⟩)),(12,⟨nb,0,none⟩,.string name)] (by kernel_rfl) (by kernel_rfl) (fun⟨_,_,h⟩=>False.elim h) ?_ ?_
   ·exact Kd (Kd (Kn))
   refine GoG.s1 0 0 [12] ?_;refine GoG.fr 1 ?_;refine GoG.fr 2 ?_;refine GoG.s1 4 1 [12] ?_;refine GoG.two (i:=3) (j:=9) rfl rfl (by kernel_rfl) (fun K hK=>?_) (fun K hK=>?_)
   ·go_simp
    refine(AZ.o _ (Y8 _ _).drew).mono ?_;rintro e9 wv ⟨mp,rfl,hag,bv⟩;have BV:=Yh (((Y8 W.heap.size W).drew).trans bv);obtain⟨b0,i1,b2,b3,yo,yl,yc,i5,ok,hlk,hfn⟩:=AG.look hag Af.o;rw[HH.o]at hfn;have AF:=Yh hlk;have Ak:=Yh (hfn.sub (R:=fun b=>S2 b/\b≠wv.heap.size) (fun b hb g=>⟨g,Nat.ne_of_lt hb⟩));have A1:=@Yh (¬(S2 wv.heap.size/\wv.heap.size≠wv.heap.size)) (fun g=>g.2 rfl);have GE:=Yh BV.o.size;clear hag hlk hfn bv;refine hK.out _ _ (Kc (YR BV.o p0) (Kc (YR BV.o n0) (Kn))) ?_;clear hK K
    try simp only[Act.put,YB,YC,YD,YE,YF,YG]
    refine GoG.two (i:=5) (j:=9) rfl rfl (by kernel_rfl) (fun K hK=>?_) (fun K hK=>?_)
    ·have hl:=AF.o wv (Y8 _ _)
     go_simp;refine hK.out _ _ (Kc (YR BV.o p0) (Kc (YR BV.o n0) (Kn))) ?_;clear hK K hl;refine GoG.fr 6 ?_;refine GoG.fr 7 ?_;refine GoG.fr 8 ?_;obtain⟨wn,hwn,kn,qn,zn⟩:=YA wv #[.bool false,.int .i64 0,.bool false,.bool false,.slice none 0 0,.int .i64 0] 63;have KN:=Yh kn;have BN:=YT BV qn;have Ak:=Yh (Ak.o.same (SameS.below qn));clear kn qn zn;refine GoG.on 9 fun K hK=>?_
     go_simp
     try rw[hwn]
     refine hK.out _ _ (Kc (YR BN.o p0) (Kc (YR BN.o n0) (Kn))) ?_;clear hK K hwn
     try simp only[Act.put,YB,YC,YD,YE,YF,YG]
     obtain⟨s,hs⟩:=Yn (((((((wn.setCell ⟨wv.heap.size,0,none⟩ (.bool b0)).setCell ⟨wv.heap.size,1,none⟩ (.int .i64 i1)).setCell ⟨wv.heap.size,2,none⟩ (.bool b2)).setCell ⟨wv.heap.size,3,none⟩ (.bool b3)).setCell ⟨wv.heap.size,4,none⟩ (.slice yo yl yc)).setCell ⟨wv.heap.size,5,none⟩ (.int .i64 i5)));have KS:=Yh (Zf1 KN.o hs);have BS:=@Yh (Below W.heap.size W s) (by rw[<-hs];exact Zj BN.o GE.o _ _ _ _ _ _);have FS:=@Yh (Fnd S2 s H b0 i1 b2 b3 yo yl yc i5 ok) ((Ak.o.same (w':=s) (by rw[<-hs];exact(((((SameS.set A1.o rfl).trans (SameS.set A1.o rfl)).trans (SameS.set A1.o rfl)).trans (SameS.set A1.o rfl)).trans (SameS.set A1.o rfl)).trans (SameS.set A1.o rfl))).sub (fun b _ g=>g.1));obtain⟨⟨g0,g1,g2,g3,g4,g5⟩,q0,q1,q2,q3,q4,q5⟩:=Zu KN.o;refine GoG.on 10 fun K hK=>?_
     go_simp
     try rw[hs]
     refine hK.out _ _ (Kc (YR BS.o p0) (Kc (YR BS.o n0) (Kn))) ?_;clear hK K hs p0 n0 g0 g1 g2 g3 g4 g5 q0 q1 q2 q3 q4 q5;refine GoG.fr 11 ?_;refine GoG.done (by kernel_rfl) ?_ _;gi_wp2_with fail;gi_meet
     case rel=>exact⟨wv.heap.size,b0,i1,b2,b3,yo,yl,yc,i5,ok,rfl,rfl,BS.o,GE.o,KS.o,FS.o⟩
    ·obtain⟨wn,hwn⟩:∃wn,wv.alloc (.cells #[.bool false,.int .i64 0,.bool false,.bool false,.slice none 0 0,.int .i64 0] 63)=wn:=⟨_,rfl⟩
     obtain⟨kn,qn,zn⟩:=Za hwn;have KN:=Yh kn;have BN:=YT BV qn;have Ak:=Yh (Ak.o.same (SameS.below qn));have AP:=Yh (AF.o wn qn);clear kn qn zn;go_simp
     try rw[hwn]
     refine hK.out _ _ (Kc (YR BN.o p0) (Kc (YR BN.o n0) (Kn))) ?_;clear hK K hwn
     try simp only[Act.put,YB,YC,YD,YE,YF,YG]
     refine GoG.on 5 fun K hK=>?_
     have hl:=AP.o;go_simp;refine hK.out _ _ (Kc (YR BN.o p0) (Kc (YR BN.o n0) (Kn))) ?_;clear hK K hl;refine GoG.fr 6 ?_;refine GoG.fr 7 ?_;refine GoG.fr 8 ?_;obtain⟨s,hs⟩:=Yn (((((((wn.setCell ⟨wv.heap.size,0,none⟩ (.bool b0)).setCell ⟨wv.heap.size,1,none⟩ (.int .i64 i1)).setCell ⟨wv.heap.size,2,none⟩ (.bool b2)).setCell ⟨wv.heap.size,3,none⟩ (.bool b3)).setCell ⟨wv.heap.size,4,none⟩ (.slice yo yl yc)).setCell ⟨wv.heap.size,5,none⟩ (.int .i64 i5)));have KS:=Yh (Zf1 KN.o hs);have BS:=@Yh (Below W.heap.size W s) (by rw[<-hs];exact Zj BN.o GE.o _ _ _ _ _ _);have FS:=@Yh (Fnd S2 s H b0 i1 b2 b3 yo yl yc i5 ok) ((Ak.o.same (w':=s) (by rw[<-hs];exact(((((SameS.set A1.o rfl).trans (SameS.set A1.o rfl)).trans (SameS.set A1.o rfl)).trans (SameS.set A1.o rfl)).trans (SameS.set A1.o rfl)).trans (SameS.set A1.o rfl))).sub (fun b _ g=>g.1));obtain⟨⟨g0,g1,g2,g3,g4,g5⟩,q0,q1,q2,q3,q4,q5⟩:=Zu KN.o;refine GoG.on 10 fun K hK=>?_
     go_simp
     try rw[hs]
     refine hK.out _ _ (Kc (YR BS.o p0) (Kc (YR BS.o n0) (Kn))) ?_;clear hK K hs p0 n0 g0 g1 g2 g3 g4 g5 q0 q1 q2 q3 q4 q5;refine GoG.fr 11 ?_;refine GoG.done (by kernel_rfl) ?_ _;gi_wp2_with fail;gi_meet
     case rel=>exact⟨wv.heap.size,b0,i1,b2,b3,yo,yl,yc,i5,ok,rfl,rfl,BS.o,GE.o,KS.o,FS.o⟩
   ·obtain⟨wn,hwn⟩:∃wn,W.drew.alloc (.cells #[.bool false,.int .i64 0,.bool false,.bool false,.slice none 0 0,.int .i64 0] 63)=wn:=⟨_,rfl⟩
    obtain⟨kn,qn,zn⟩:=Za hwn;have KN:=@Yh (BlockAt wn W.heap.size _ _) (kn);have BN:=Yh (((Y8 W.heap.size W).drew).trans qn);go_simp
    try rw[hwn]
    refine hK.out _ _ (Kc (YR BN.o p0) (Kc (YR BN.o n0) (Kn))) ?_;clear hK K hwn kn qn zn
    try simp only[Act.put,YB,YC,YD,YE,YF,YG]
    refine GoG.on 3 fun K hK=>?_
    go_simp;refine(B0.o wn BN.o KN.o.lt).mono ?_;rintro e9 wv ⟨mp,rfl,hag,bv⟩;have BV:=YT BN bv;have KN:=Yh (KN.o.below bv);obtain⟨b0,i1,b2,b3,yo,yl,yc,i5,ok,hlk,hfn⟩:=AG.look hag Af.o;rw[HH.o]at hfn;have AF:=Yh hlk;have Ak:=Yh hfn;have A1:=@Yh (¬(S2 W.heap.size/\W.heap.size≠W.heap.size)) (fun g=>g.2 rfl);have GE:=Yh (Yk W.heap.size);have AP:=Yh (AF.o wv (Y8 _ _));clear hag hlk hfn bv;refine hK.out _ _ (Kc (YR BV.o p0) (Kc (YR BV.o n0) (Kn))) ?_;clear hK K
    try simp only[Act.put,YB,YC,YD,YE,YF,YG]
    refine GoG.on 5 fun K hK=>?_
    have hl:=AP.o;go_simp;refine hK.out _ _ (Kc (YR BV.o p0) (Kc (YR BV.o n0) (Kn))) ?_;clear hK K hl;refine GoG.fr 6 ?_;refine GoG.fr 7 ?_;refine GoG.fr 8 ?_;obtain⟨s,hs⟩:=Yn (((((((wv.setCell ⟨W.heap.size,0,none⟩ (.bool b0)).setCell ⟨W.heap.size,1,none⟩ (.int .i64 i1)).setCell ⟨W.heap.size,2,none⟩ (.bool b2)).setCell ⟨W.heap.size,3,none⟩ (.bool b3)).setCell ⟨W.heap.size,4,none⟩ (.slice yo yl yc)).setCell ⟨W.heap.size,5,none⟩ (.int .i64 i5)));have KS:=Yh (Zf1 KN.o hs);have BS:=@Yh (Below W.heap.size W s) (by rw[<-hs];exact Zj BV.o GE.o _ _ _ _ _ _);have FS:=@Yh (Fnd S2 s H b0 i1 b2 b3 yo yl yc i5 ok) ((Ak.o.same (w':=s) (by rw[<-hs];exact(((((SameS.set A1.o rfl).trans (SameS.set A1.o rfl)).trans (SameS.set A1.o rfl)).trans (SameS.set A1.o rfl)).trans (SameS.set A1.o rfl)).trans (SameS.set A1.o rfl))).sub (fun b _ g=>g.1));obtain⟨⟨g0,g1,g2,g3,g4,g5⟩,q0,q1,q2,q3,q4,q5⟩:=Zu KN.o;refine GoG.on 10 fun K hK=>?_
    go_simp
    try rw[hs]
    refine hK.out _ _ (Kc (YR BS.o p0) (Kc (YR BS.o n0) (Kn))) ?_;clear hK K hs p0 n0 g0 g1 g2 g3 g4 g5 q0 q1 q2 q3 q4 q5;refine GoG.fr 11 ?_;refine GoG.done (by kernel_rfl) ?_ _;gi_wp2_with fail;gi_meet
    case rel=>exact⟨W.heap.size,b0,i1,b2,b3,yo,yl,yc,i5,ok,rfl,rfl,BS.o,GE.o,KS.o,FS.o⟩
  obtain⟨fb,b0,i1,b2,b3,yo,yl,yc,i5,ok,rfl,rfl,bq,hfb,hkf,hfn⟩:=hcut;have BQ:=Yh bq;have AH:=YT BW bq;have A5:=Yh (Bs.o.below bq);have Bt:=Yh (Br.o.below bq);have B1:=YR bq p0;have B2:=@Yh (¬S2 r6/\¬S2 r7/\¬S2 r8) (⟨Ae.o _ (by have:=A0.o;omega) (by have:=A0.o;omega),Ae.o _ (by have:=A0.o;omega) (by have:=A0.o;omega),Ae.o _ (by have:=A0.o;omega) (by have:=A0.o;omega)⟩);have Az:=@Yh (fb≠r6) (by have:=A0.o;have:=Ay.o;omega);clear p0 n0 bq AZ B0;have p0:=B1;clear B1
  rcases hfn with⟨hH0,rfl⟩|⟨s,r,y,hH0,rfl,hse,AA,rfl,rfl,rfl,rfl,rfl,rfl,rfl,rfl⟩
  ·have Bu:=Yh hH0
   clear hH0 hkf hfb;gi_wp2_with fail
   exact⟨⟨fun p hp=>by
    rcases Yz.1 hp with h|h
    ·exact AL.o.1 p h
    ·rw[Yo.1 h]
     exact HH.o.trans Bu.o,AL.o.2.trans (SameX.below BQ.o)⟩,SameX.below BQ.o,AH.o⟩
  have B3:=Yh (show F=match s::r with
   | [s]=>(U,s,0)
   | _::_::_=>(noUn,noSe,9)
   | []=>(noUn,noSe,8)from by
    obtain⟨t,ht⟩:=AM.o;rw[HF.o,<-ht,Y6]
    show pickT name (pre++(U,ls)::t) _=_
    rw[Zyd AL.o.1,HH.o,hH0]
    cases r<;>rfl)
  have Bv:=Yh AA;have Bw:=Yh hse;clear AA hse hH0 hfb
  rcases r with _|⟨s2,r⟩
  ·have KF:=@Yh (BlockAt wc fb #[.bool s.meth,.int .i64 s.typ,.bool s.ptr,.bool s.via,.slice y.po s.path.length y.pc,.int .i64 1] 63) (hkf)
   obtain⟨⟨e0,e1,e2,e3,e4,e5⟩,-⟩:=Zu KF.o;clear hkf;gi_upto_region 13 with fail
   clear e5;obtain⟨ao2,no2,ac2,nc2,kw,huw⟩:=Bt.o;have Bx:=Yh huw;obtain⟨tl2,htl2⟩:=Yn (U.types.length);obtain⟨nl2,hnl2⟩:=Yn (U.named.length);rw[htl2,hnl2]at kw;have AQ:=Yh htl2;have AR:=Yh hnl2;obtain⟨x0,x1,x2⟩:=cell3m kw;clear kw huw htl2 hnl2 x2;obtain⟨c60,c61⟩:=cell2 A5.o.1;obtain⟨c70,c71,c72,c73,c74⟩:=cell5 A5.o.2.1;have Al:=A5.o.2.2.cell 0;have Am:=A5.o.1.free 0;have An:=A5.o.1.free 1;have Ao:=A5.o.2.1.free 0;have Ap:=A5.o.2.1.free 1;have Aq:=A5.o.2.1.free 2;have Ar:=A5.o.2.1.free 3;have As:=A5.o.2.1.free 4;have Ah:=A5.o.2.2.free 0;have A9:=A3.o.1;have Aa:=A3.o.2.1;have Ab:=A3.o.2.2;have At:=Ne.symm A9;have Ai:=Ne.symm Aa;have Ac:=Ne.symm Ab;obtain⟨s8,A6⟩:=Yn (((((((((wc.setCell ⟨r6,0,none⟩ (.slice ao2 tl2 ac2)).setCell ⟨r6,1,none⟩ (.slice no2 nl2 nc2)).setCell ⟨r7,0,none⟩ (.bool s.meth)).setCell ⟨r7,1,none⟩ (.int .i64 s.typ)).setCell ⟨r7,2,none⟩ (.bool s.ptr)).setCell ⟨r7,3,none⟩ (.bool s.via)).setCell ⟨r7,4,none⟩ (.slice y.po s.path.length y.pc)).setCell ⟨r8,0,none⟩ (.int .i64 0)));have A8:=Yh A6;refine GoG.startIn [(6,⟨pb,0,none⟩,.pointer (some ⟨wb,0,none⟩)),(6,⟨wb,0,none⟩,.slice ao2 tl2 ac2),(6,⟨wb,1,none⟩,.slice no2 nl2 nc2),(7,⟨fb,0,none⟩,.bool s.meth),(7,⟨fb,1,none⟩,.int .i64 s.typ),(7,⟨fb,2,none⟩,.bool s.ptr),(7,⟨fb,3,none⟩,.bool s.via),(7,⟨fb,4,none⟩,.slice y.po s.path.length y.pc)] (by kernel_rfl) (by kernel_rfl) (fun⟨_,_,h⟩=>False.elim h) ?_ ?_
   ·exact Kd (Kd (Kd (Kd (Kd (Kd (Kd (Kd (Kn))))))))
   refine GoG.s1 0 0 [6] ?_;refine GoG.fr 1 ?_;refine GoG.fr 2 ?_;refine GoG.s2 3 1 [6] ?_;refine GoG.fr 4 ?_;refine GoG.s5 5 3 [7] ?_;refine GoG.on 6 fun K hK=>?_
   go_simp;refine hK.out _ _ (Ku (Ku (Ku (Kc (ZL0 e0 Az.o _ _) (Kc (ZL0 e1 Az.o _ _) (Kc (ZL0 e2 Az.o _ _) (Kc (ZL0 e3 Az.o _ _) (Kc (ZL0 e4 Az.o _ _) (Kn))))))))) ?_;clear hK K e0 e1 e2 e3 e4 x0 x1 p0
   try simp only[Act.put,YB,YC,YD,YE,YF,YG]
   refine GoG.on 7 fun K hK=>?_
   go_simp;refine hK.out _ _ (Ku (Ku (Ku (Ku (Ku (Ku (Ku (Ku (Kn))))))))) ?_;clear hK K
   try simp only[Act.put,YB,YC,YD,YE,YF,YG]
   refine GoG.on 8 fun K hK=>?_
   go_simp
   try rw[A6]
   refine hK.out _ _ (Ku (Ku (Ku (Ku (Ku (Ku (Ku (Ku (Kn))))))))) ?_;clear hK K
   try simp only[Act.put,YB,YC,YD,YE,YF,YG]
   refine GoG.done (by kernel_rfl) ?_ _;gi_wp2_with fail;have By:=Zm7 A5.o A3.o ao2 no2 y.po tl2 nl2 ac2 nc2 s.path.length y.pc s 0 A8.o
   have AA:IRowS S2 wc y.po s.path/\s.path.length<=y.pc:=by
    have h:=Bv.o;unfold SelIn at h;rw[Bw.o]at h;exact h
   have bd:Below s8.heap.size s8 s8.drew:=(Y8 _ _).drew;have b8:=(Zc2 A8.o AH.o Ag.o).drew;refine⟨?_,fun b hb hlt=>?_,?_,b8⟩
   ·show ResAt S2 w s8.drew r6 r7 r8 F
    rw[show F=(U,s,0)from B3.o];exact⟨ao2,no2,ac2,nc2,y.po,y.pc,by rw[show((U,s,(0:Int)):Un×Se×Int).1.types.length=tl2 from AQ.o,show((U,s,(0:Int)):Un×Se×Int).1.named.length=nl2 from AR.o];exact By.below bd,(Bx.o.same (Zj9 A8.o B2.o)).same (SameS.below bd),Z7 (Z7 AA.1 (Zj9 A8.o B2.o)) (SameS.below bd),AA.2,b8⟩
   ·exact((Z30 A8.o).2 b (by have:=A0.o;omega) (by have:=A0.o;omega) (by have:=A0.o;omega)).trans (BQ.o.block b hlt)
   ·show W.heap.size<=s8.heap.size
    rw[(Z30 A8.o).1];exact BQ.o.size
  ·have KF:=@Yh (BlockAt wc fb #[.bool s.meth,.int .i64 s.typ,.bool s.ptr,.bool s.via,.slice y.po s.path.length y.pc,.int .i64 ((r.length+2:Nat):Int)] 63) (hkf)
   have e5:=(Zu KF.o).1.2.2.2.2.2;have h2:(1:Int)<((r.length+2:Nat):Int):=by omega
   obtain⟨cc,hcc⟩:∃c:Int,((r.length+2:Nat):Int)=c:=⟨_,rfl⟩
   rw[hcc]at e5 h2;clear hkf hcc;obtain⟨c60,c61⟩:=cell2 A5.o.1;obtain⟨c70,c71,c72,c73,c74⟩:=cell5 A5.o.2.1;have Al:=A5.o.2.2.cell 0;have Am:=A5.o.1.free 0;have An:=A5.o.1.free 1;have Ao:=A5.o.2.1.free 0;have Ap:=A5.o.2.1.free 1;have Aq:=A5.o.2.1.free 2;have Ar:=A5.o.2.1.free 3;have As:=A5.o.2.1.free 4;have Ah:=A5.o.2.2.free 0;have A9:=A3.o.1;have Aa:=A3.o.2.1;have Ab:=A3.o.2.2;have At:=Ne.symm A9;have Ai:=Ne.symm Aa;have Ac:=Ne.symm Ab;obtain⟨s8,A6⟩:=Yn (((((((((wc.setCell ⟨r6,0,none⟩ (.slice none 0 0)).setCell ⟨r6,1,none⟩ (.slice none 0 0)).setCell ⟨r7,0,none⟩ (.bool false)).setCell ⟨r7,1,none⟩ (.int .i64 0)).setCell ⟨r7,2,none⟩ (.bool false)).setCell ⟨r7,3,none⟩ (.bool false)).setCell ⟨r7,4,none⟩ (.slice none 0 0)).setCell ⟨r8,0,none⟩ (.int .i64 9)));have Ad:=Yh (Zo1 (Sb:=S2) (e:=9) A5.o A3.o Ag.o AH.o A6);have A8:=Yh A6;gi_wp2_with fail;refine⟨?_,fun b hb hlt=>?_,?_,Zc2 A8.o AH.o Ag.o⟩
   ·show ResAt S2 w s8 r6 r7 r8 F
    rw[show F=(noUn,noSe,9)from B3.o];exact Ad.o
   ·exact((Z30 A8.o).2 b (by have:=A0.o;omega) (by have:=A0.o;omega) (by have:=A0.o;omega)).trans (BQ.o.block b hlt)
   ·show W.heap.size<=s8.heap.size
    rw[(Z30 A8.o).1];exact BQ.o.size
 case hdone =>
  intro V W hIW hkW hbW hKK;simp only[Exit.inBlock,Exit.then];go_upto_region 14 with fail;obtain⟨E,hE2⟩:=Yn ((allT u (z:Int)).2)
  have B4:=Yh (show F=(noUn,noSe,if E≠0 then E else 8)from by
   have h:=ZZ2 name (allT u z).2 (allT u z).1 [] hIW.1;rw[List.append_nil]at h;rw[HF.o,h,hE2]
   rfl)
  rw[hE2]at hkW;obtain⟨ao2,no2,ac2,nc2,kw,huw⟩:=hkW;obtain⟨x0,x1,x2⟩:=cell3m kw;have Bz:=Yh (hIW.2.block AK.o (by have:=A0.o;omega));have p0:W.cell? ⟨pb,0,none⟩=some (.pointer (some ⟨wb,0,none⟩)):=Bz.o.cell 0;have A4:=@Yh (ResC W r6 r7 r8 none none none 0 0 0 0 0 0 noSe 0) (AY.o.keep (fun b hb=>hIW.2.2 b (by have:=A0.o;omega) (by have:=A0.o;omega)));have B7:=Yh hbW;have AI:=Yh hKK;have Au:=@Yh (pb≠r6/\wb≠r6/\pb≠r7/\wb≠r7) (by have:=A0.o;omega);have ND:=@Yh (wl.heap.size≠r6/\wl.heap.size≠r7/\wl.heap.size≠r8) (by have:=A0.o;omega);clear hIW hbW hKK hE2 kw huw x0 x1
  by_cases he:E=0
  ·subst he
   have AS:=@Yh (F=(noUn,noSe,8)) (B4.o);obtain⟨c60,c61⟩:=cell2 A4.o.1;obtain⟨c70,c71,c72,c73,c74⟩:=cell5 A4.o.2.1;have Al:=A4.o.2.2.cell 0;have Am:=A4.o.1.free 0;have An:=A4.o.1.free 1;have Ao:=A4.o.2.1.free 0;have Ap:=A4.o.2.1.free 1;have Aq:=A4.o.2.1.free 2;have Ar:=A4.o.2.1.free 3;have As:=A4.o.2.1.free 4;have Ah:=A4.o.2.2.free 0;have A9:=A3.o.1;have Aa:=A3.o.2.1;have Ab:=A3.o.2.2;have At:=Ne.symm A9;have Ai:=Ne.symm Aa;have Ac:=Ne.symm Ab;obtain⟨s8,A6⟩:=Yn (((((((((W.setCell ⟨r6,0,none⟩ (.slice none 0 0)).setCell ⟨r6,1,none⟩ (.slice none 0 0)).setCell ⟨r7,0,none⟩ (.bool false)).setCell ⟨r7,1,none⟩ (.int .i64 0)).setCell ⟨r7,2,none⟩ (.bool false)).setCell ⟨r7,3,none⟩ (.bool false)).setCell ⟨r7,4,none⟩ (.slice none 0 0)).setCell ⟨r8,0,none⟩ (.int .i64 8)));have Ad:=Yh (Zo1 (Sb:=S2) (e:=8) A4.o A3.o Ag.o B7.o A6);have A8:=Yh A6;go_wp2_with fail;rw[AS.o];exact ZP2 Ad.o (fun b g=>((Aj.o b).1 g).1) (((Z30 A8.o).2 _ ND.o.1 ND.o.2.1 ND.o.2.2).trans AI.o) ND.o (Ae.o _ (by have:=A0.o;omega) (by omega)) (by have:=A0.o;omega) rfl rfl rfl
  ·have AS:=@Yh (F=(noUn,noSe,E)) (by rw[B4.o,if_pos he])
   obtain⟨c60,c61⟩:=cell2 A4.o.1;obtain⟨c70,c71,c72,c73,c74⟩:=cell5 A4.o.2.1;have Al:=A4.o.2.2.cell 0;have Am:=A4.o.1.free 0;have An:=A4.o.1.free 1;have Ao:=A4.o.2.1.free 0;have Ap:=A4.o.2.1.free 1;have Aq:=A4.o.2.1.free 2;have Ar:=A4.o.2.1.free 3;have As:=A4.o.2.1.free 4;have Ah:=A4.o.2.2.free 0;have A9:=A3.o.1;have Aa:=A3.o.2.1;have Ab:=A3.o.2.2;have At:=Ne.symm A9;have Ai:=Ne.symm Aa;have Ac:=Ne.symm Ab;obtain⟨s8,A6⟩:=Yn (((((((((W.setCell ⟨r6,0,none⟩ (.slice none 0 0)).setCell ⟨r6,1,none⟩ (.slice none 0 0)).setCell ⟨r7,0,none⟩ (.bool false)).setCell ⟨r7,1,none⟩ (.int .i64 0)).setCell ⟨r7,2,none⟩ (.bool false)).setCell ⟨r7,3,none⟩ (.bool false)).setCell ⟨r7,4,none⟩ (.slice none 0 0)).setCell ⟨r8,0,none⟩ (.int .i64 E)));have Ad:=Yh (Zo1 (Sb:=S2) (e:=E) A4.o A3.o Ag.o B7.o A6);have A8:=Yh A6;go_upto_region 15 with fail;refine ZEa ?_;obtain⟨s7,hs7⟩:=Yn ((((((((W.setCell ⟨r6,0,none⟩ (.slice none 0 0)).setCell ⟨r6,1,none⟩ (.slice none 0 0)).setCell ⟨r7,0,none⟩ (.bool false)).setCell ⟨r7,1,none⟩ (.int .i64 0)).setCell ⟨r7,2,none⟩ (.bool false)).setCell ⟨r7,3,none⟩ (.bool false)).setCell ⟨r7,4,none⟩ (.slice none 0 0)));have y0:s7.cell? ⟨pb,0,none⟩=some (.pointer (some ⟨wb,0,none⟩)):=by rw[<-hs7];exact Zx6 p0 Au.o.1 Au.o.2.2.1 _ _ _ _ _ _ _
   have y2:s7.cell? ⟨wb,2,none⟩=some (.int .i64 E):=by rw[<-hs7];exact Zx6 x2 Au.o.2.1 Au.o.2.2.2 _ _ _ _ _ _ _
   have k8:BlockAt s7 r8 #[.int .i64 0] 30:=by rw[<-hs7];exact((((((A4.o.2.2.other Ai 0 _).other Ai 1 _).other Ac 0 _).other Ac 1 _).other Ac 2 _).other Ac 3 _).other Ac 4 _
   have Y0:=Yh y0;have Y2:=Yh y2;have K8:=Yh k8;have BA:=Yh hs7;have A6:s7.setCell ⟨r8,0,none⟩ (.int .i64 E)=s8:=by rw[<-hs7];exact A8.o
   have AT:=Yh A6;clear hs7 A6 y0 y2 k8;refine GoG.start [(8,⟨pb,0,none⟩,.pointer (some ⟨wb,0,none⟩)),(8,⟨wb,2,none⟩,.int .i64 E)] (by kernel_rfl) ?_ ?_
   ·exact Kd (Kd (Kn))
   refine GoG.fr 0 ?_;refine GoG.fr 1 ?_;refine GoG.s1 2 0 [8] ?_;refine GoG.fr 3 ?_;refine GoG.fr 4 ?_;refine GoG.s1 5 1 [8] ?_;refine GoG.on 6 fun K hK=>?_
   go_simp;refine hK.out _ _ (Kc (ZL0 p0 Au.o.1 _ _) (Kc (ZL0 x2 Au.o.2.1 _ _) Kn)) ?_;clear hK K
   try simp only[Act.put,YB,YC,YD,YE,YF,YG]
   clear p0 x2;refine GoG.on 7 fun K hK=>?_
   go_simp;rw[BA.o];refine hK.out _ _ (Kc (show s7.drew.cell? _=_ from Y0.o) (Kc (show s7.drew.cell? _=_ from Y2.o) Kn)) ?_;clear hK K
   try simp only[Act.put,YB,YC,YD,YE,YF,YG]
   clear c60 c61 c70 c71 c72 c73 c74 Al Am An Ao Ap Aq Ar As Ah;have BD:s7.cell? ⟨r8,0,none⟩=some (.int .i64 0):=K8.o.cell 0;have Ah:=K8.o.free 0;refine GoG.on 8 fun K hK=>?_
   go_simp;rw[AT.o];refine hK.out _ _ (Ku (Ku (Kn))) ?_;clear hK K
   try simp only[Act.put,YB,YC,YD,YE,YF,YG]
   refine GoG.done (by kernel_rfl) ?_ _;go_wp2_with fail;rw[AS.o];have bd:Below s8.heap.size s8 s8.drew:=(Y8 _ _).drew
   have BB:ResAt S2 w s8.drew r6 r7 r8 (noUn,noSe,E):=by
    obtain⟨a0,a1,a2,a3,a4,a5,g1,g2,g3,g4,g5⟩:=Ad.o;exact⟨a0,a1,a2,a3,a4,a5,g1.below bd,g2.same (SameS.below bd),Z7 g3 (SameS.below bd),g4,g5.drew⟩
   exact ZP2 BB (fun b g=>((Aj.o b).1 g).1) (show s8.heap[wl.heap.size]? = _ from((Z30 A8.o).2 _ ND.o.1 ND.o.2.1 ND.o.2.2).trans AI.o) ND.o (Ae.o _ (by have:=A0.o;omega) (by omega)) (by have:=A0.o;omega) rfl rfl rfl
 case hstop =>
  intro pre W hpre hx hKK;have BC:=Yh hx;have AI:=Yh hKK;clear hx hKK hpre;go_wp2_with fail;exact ZP2 BC.o (fun b g=>((Aj.o b).1 g).1) AI.o (by have:=A0.o;omega) (Ae.o _ (by have:=A0.o;omega) (by omega)) (by have:=A0.o;omega) rfl rfl rfl
end Go.Proofs.YtdcajkagakikiaaGreatDoor
