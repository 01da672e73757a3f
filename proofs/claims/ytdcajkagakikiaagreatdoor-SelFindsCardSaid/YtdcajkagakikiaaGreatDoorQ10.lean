import Derived.Test.YtdcajkagakikiaaGreatDoorQ09
namespace Go.Proofs.YtdcajkagakikiaaGreatDoor
set_option maxHeartbeats 64000000
set_option linter.unusedSimpArgs false
set_option linter.unusedVariables false
open Go.RowKit
structure Mt where
 name:ByteArray
 ptr:Bool
 sig:Int
deriving DecidableEq
structure Nm where
 name:ByteArray
 bounds:List Int
 under:Int
 methods:List Mt
deriving DecidableEq
structure Un where
 types:List Ty
 named:List Nm
deriving DecidableEq
def lessB(a b:ByteArray):Bool:=Op.bytesLess a.toList b.toList
def riseB(xs:List ByteArray)(i:Nat):Bool:=decide (i=0)||lessB (xs.getD (i-1) ⟨#[]⟩) (xs.getD i ⟨#[]⟩)
def risesB(xs:List ByteArray):Bool:=(List.range xs.length).all (riseB xs)
def atU(ns:List Nm)(s:ByteArray):Int:=match ns.findIdx? (fun n=>decide (n.name=s))with
 | none=>-1
 | some i=>(i:Int)
theorem Zqa(a:ByteArray):lessB a a=false:=by
 unfold lessB
 generalize a.toList=l
 induction l with
 | nil=>rfl
 | cons c r ih=>rw[Op.bytesLess,ih,Bool.and_false,Bool.or_false,Y1,UInt8.lt_iff_toNat_lt];omega
theorem bytes_trans:∀a b c:List UInt8,Op.bytesLess a b=true->Op.bytesLess b c=true->Op.bytesLess a c=true
 | [],[],c,h,_=>by cases h
 | [],b::bs,[],_,h=>by cases h
 | [],b::bs,c::cs,_,_=>rfl
 | a::ra,[],c,h,_=>by cases h
 | a::ra,b::rb,[],_,h=>by cases h
 | a::ra,b::rb,c::rc,h,h2=>by
  rw[Op.bytesLess,Bool.or_eq_true,Yd,decide_eq_true_eq,UInt8.lt_iff_toNat_lt,YK]at h h2 ⊢
  rcases h with h|⟨h,g⟩
  ·rcases h2 with h2|⟨h2,g2⟩
   ·exact .inl (by omega)
   ·subst h2;exact .inl h
  ·subst h
   rcases h2 with h2|⟨h2,g2⟩
   ·exact .inl h2
   ·exact .inr ⟨h2,bytes_trans ra rb rc g g2⟩
theorem ZT3{a b c:ByteArray}(h:lessB a b=true)(h2:lessB b c=true):lessB a c=true:=bytes_trans _ _ _ h h2
theorem Zw4{xs:List ByteArray}(h:risesB xs=true):∀j i,i<j->j<xs.length->lessB (xs.getD i ⟨#[]⟩) (xs.getD j ⟨#[]⟩)=true
 | 0,i,h1,_=>absurd h1 (Yr _)
 | j+1,i,h1,h2=>by
  have hs:=List.all_eq_true.1 h (j+1) (List.mem_range.2 h2);unfold riseB at hs;rw[Ya (by omega),Bool.false_or,Nat.add_sub_cancel]at hs
  rcases Ym (Ys h1)with c|c
  ·exact ZT3 (Zw4 h j i c (by omega)) hs
  ·rw[c];exact hs
def lowU(xs:List ByteArray)(s:ByteArray):Nat:=xs.findIdx fun x=>!lessB x s
theorem ZMb(xs:List ByteArray)(s:ByteArray):lowU xs s<=xs.length:=List.findIdx_le_length
theorem Z89{xs:List ByteArray}{s:ByteArray}{i:Nat}(h:i<lowU xs s):lessB (xs.getD i ⟨#[]⟩) s=true:=by
 have hl:=ZMb xs s;have:=List.not_of_lt_findIdx h;rw[Z3 (by omega)]
 simpa using this
theorem Zk9{xs:List ByteArray}(hr:risesB xs=true){s:ByteArray}{i:Nat}(h:lowU xs s<=i)(hi:i<xs.length):lessB (xs.getD i ⟨#[]⟩) s=false:=by
 have hb:lessB (xs.getD (lowU xs s) ⟨#[]⟩) s=false:=by
  have hl:lowU xs s<xs.length:=by omega
  have:=List.findIdx_getElem (w:=hl);rw[Z3 hl];unfold lowU
  simpa using this
 rcases Ym h with c|c
 ·cases hx:lessB (xs.getD i ⟨#[]⟩) s
  ·rfl
  ·rw[ZT3 (Zw4 hr i _ c hi) hx]at hb
   cases hb
 ·rw[<-c];exact hb
theorem ZFb{ns:List Nm}(hr:risesB (ns.map (·.name))=true)(s:ByteArray):atU ns s=if lowU (ns.map (·.name)) s<ns.length/\(ns.getD (lowU (ns.map (·.name)) s) ⟨⟨#[]⟩,[],0,[]⟩).name=s then(lowU (ns.map (·.name)) s:Int)else -1:=by
 have A1:∀i,i<ns.length->(ns.map (·.name)).getD i ⟨#[]⟩=(ns.getD i ⟨⟨#[]⟩,[],0,[]⟩).name:=fun i hi=>by
  rw[Z3 (by rw[Yg];exact hi),Z3 hi,List.getElem_map]
 have A0:∀i,i<ns.length->(ns.getD i ⟨⟨#[]⟩,[],0,[]⟩).name=s->i=lowU (ns.map (·.name)) s:=fun i hi e=>by
  rcases Nat.lt_trichotomy i (lowU (ns.map (·.name)) s)with c|c|c
  ·have:=Z89 c
   rw[A1 i hi,e,Zqa]at this
   cases this
  ·exact c
  ·have h1:=Zk9 hr (s:=s) (Yk _) (by rw[Yg];omega)
   have h2:=Zw4 hr i _ c (by rw[Yg];exact hi);rw[A1 i hi,e,h1]at h2
   cases h2
 unfold atU
 cases hf:ns.findIdx? (fun n=>decide (n.name=s))with
 | none =>
  rw[List.findIdx?_eq_none_iff]at hf;simp only;rw[if_neg];rintro⟨h1,h2⟩;have:=hf _ (Yq h1);rw[Z3 h1]at h2;simp[h2]at this
 | some i =>
  rw[List.findIdx?_eq_some_iff_getElem]at hf;obtain⟨hi,hp,_⟩:=hf;have e:(ns.getD i ⟨⟨#[]⟩,[],0,[]⟩).name=s:=by rw[Z3 hi];exact Yf hp
  have:=A0 i hi e;simp only;rw[<-this,if_pos ⟨hi,e⟩]
def askN(l:List Ty)(i:Int):Int:=askD (funT l) (i.toNat+1) i.toNat
def inL(l:List Ty)(i:Int):Bool:=decide (0<=i/\i<(l.length:Int))
def fitB(l:List Ty)(i:Int)(most:Nat):Bool:=inL l i&&decide (askN l i<=(most:Int))
def isB(l:List Ty)(i k:Int):Bool:=inL l i&&decide (kindAt l i=k)
def boundB(l:List Ty)(most:Nat)(b:Int):Bool:=isB l b 7&&fitB l b most
def methB(l:List Ty)(most:Nat)(m:Mt):Bool:=nameB m.name&&isB l m.sig 5&&fitB l m.sig most
def underB(l:List Ty)(n:Nm):Bool:=fitB l n.under n.bounds.length&&!isB l n.under 8&&!isB l n.under 9&&decide (¬(14<=n.under/\n.under<=19))&&(decide (n.methods=[])||(!isB l n.under 7&&!isB l n.under 1))
def oneU(l:List Ty)(n:Nm):Bool:=
 namedB n.name&&decide (n.bounds.length<=16/\n.methods.length<=16)&&underB l n&&n.bounds.all (boundB l n.bounds.length)&&n.methods.all (methB l n.bounds.length)&&risesB (n.methods.map (·.name))
def fitsU(ns:List Nm)(t:Ty):Bool:=decide (t.kind≠8)||(decide (0<=atU ns t.name)&&decide ((ns.getD (atU ns t.name).toNat ⟨⟨#[]⟩,[],0,[]⟩).bounds.length=t.kids.length))
def rightU(u:Un):Bool:=rightT u.types&&decide (u.named.length<=60)&&u.named.all (oneU u.types)&&risesB (u.named.map (·.name))&&u.types.all (fitsU u.named)
def MRow(w:World)(ao:Option Addr)(ms:List Mt):Prop:=
 ms=[]\/∃b off,ao=some ⟨b,off,none⟩/\b<w.heap.size/\∀i (h:i<ms.length),w.cell? ⟨b,off+i*3,none⟩=some (.string ms[i].name)/\w.cell? ⟨b,off+i*3+1,none⟩=some (.bool ms[i].ptr)/\w.cell? ⟨b,off+i*3+2,none⟩=some (.int .i64 ms[i].sig)
theorem MRow.below{w w':World}{ao:Option Addr}{ms:List Mt}(h:MRow w ao ms)(hb:Below w.heap.size w w'):MRow w' ao ms:=by
 rcases h with h|⟨b,off,e,hl,cc⟩
 ·exact .inl h
 ·exact .inr ⟨b,off,e,Yi hl hb.size,fun i hi=>⟨(hb.cell hl).trans (cc i hi).1,(hb.cell hl).trans (cc i hi).2.1,(hb.cell hl).trans (cc i hi).2.2⟩⟩
theorem MRow.cells{w:World}{ao:Option Addr}{ms:List Mt}(h:MRow w ao ms)(hn:0<ms.length):∃b off,ao=some ⟨b,off,none⟩/\b<w.heap.size/\∀i (h:i<ms.length),w.cell? ⟨b,off+i*3,none⟩=some (.string ms[i].name)/\w.cell? ⟨b,off+i*3+1,none⟩=some (.bool ms[i].ptr)/\w.cell? ⟨b,off+i*3+2,none⟩=some (.int .i64 ms[i].sig):=by
 rcases h with h|h
 ·rw[h]at hn;exact absurd hn (by simp)
 ·exact h
structure NmOk (n:Nm):Prop where
 nl:n.name.size<=50
 bl:n.bounds.length<=18
 ml:n.methods.length<=18
 un:-9223372036854775808<=n.under/\n.under<=9223372036854775807
 bs:∀b∈n.bounds,-9223372036854775808<=b/\b<=9223372036854775807
 ms:∀m∈n.methods,m.name.size<=9223372036854775807/\-9223372036854775808<=m.sig/\m.sig<=9223372036854775807
structure NmC (w:World) (bo mo:Option Addr) (n:Nm):Prop where
 bounds:IRow w bo n.bounds
 methods:MRow w mo n.methods
 ok:NmOk n
theorem NmC.below{w w':World}{bo mo:Option Addr}{n:Nm}(h:NmC w bo mo n)(hb:Below w.heap.size w w'):NmC w' bo mo n:=⟨h.bounds.below hb,h.methods.below hb,h.ok⟩
def nmV(n:Nm)(bo:Option Addr)(bc:Nat)(mo:Option Addr)(mc:Nat):Value:=.agg #[.string n.name,.slice bo n.bounds.length bc,.int .i64 n.under,.slice mo n.methods.length mc]
def NmAt(w:World)(b o:Nat)(n:Nm):Prop:=
 ∃bo bc mo mc,w.cell? ⟨b,o,none⟩=some (.string n.name)/\w.cell? ⟨b,o+1,none⟩=some (.slice bo n.bounds.length bc)/\w.cell? ⟨b,o+2,none⟩=some (.int .i64 n.under)/\w.cell? ⟨b,o+3,none⟩=some (.slice mo n.methods.length mc)/\n.bounds.length<=bc/\n.methods.length<=mc/\NmC w bo mo n
theorem NmAt.below{w w':World}{b o:Nat}{n:Nm}(h:NmAt w b o n)(hl:b<w.heap.size)(hb:Below w.heap.size w w'):NmAt w' b o n:=by
 obtain⟨bo,bc,mo,mc,h1,h2,h3,h4,h5,h6,h7⟩:=h;exact⟨bo,bc,mo,mc,(hb.cell hl).trans h1,(hb.cell hl).trans h2,(hb.cell hl).trans h3,(hb.cell hl).trans h4,h5,h6,h7.below hb⟩
def URow(w:World)(no:Option Addr)(ns:List Nm):Prop:=
 ns=[]\/∃b off,no=some ⟨b,off,none⟩/\b<w.heap.size/\∀i (h:i<ns.length),NmAt w b (off+i*4) ns[i]
theorem URow.below{w w':World}{no:Option Addr}{ns:List Nm}(h:URow w no ns)(hb:Below w.heap.size w w'):URow w' no ns:=by
 rcases h with h|⟨b,off,e,hl,cc⟩
 ·exact .inl h
 ·exact .inr ⟨b,off,e,Yi hl hb.size,fun i hi=>(cc i hi).below hl hb⟩
theorem URow.cells{w:World}{no:Option Addr}{ns:List Nm}(h:URow w no ns)(hn:0<ns.length):∃b off,no=some ⟨b,off,none⟩/\b<w.heap.size/\∀i (h:i<ns.length),NmAt w b (off+i*4) ns[i]:=by
 rcases h with h|h
 ·rw[h]at hn;exact absurd hn (by simp)
 ·exact h
structure UnC (w:World) (ao no:Option Addr) (ac nc:Nat) (u:Un):Prop where
 types:ARow w ao u.types
 named:URow w no u.named
 tl:u.types.length<=1000
 nl:u.named.length<=1000
 tc:u.types.length<=ac
 nc:u.named.length<=nc
theorem UnC.below{w w':World}{ao no:Option Addr}{ac nc:Nat}{u:Un}(h:UnC w ao no ac nc u)(hb:Below w.heap.size w w'):UnC w' ao no ac nc u:=⟨h.types.below hb,h.named.below hb,h.tl,h.nl,h.tc,h.nc⟩
def unV(u:Un)(ao:Option Addr)(ac:Nat)(no:Option Addr)(nc:Nat):Value:=.agg #[.slice ao u.types.length ac,.slice no u.named.length nc]
end Go.Proofs.YtdcajkagakikiaaGreatDoor
