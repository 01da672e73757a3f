import Derived.Test.YtdcajkagakikiaaGreatDoorQ00
import Derived.Lib.AppendIntMem
import Derived.Lib.BufferKept
import Derived.Lib.OwnKind
import Derived.Lib.ItoaLen
import Derived.Lib.Slices
import Derived.OwnWalk
import Derived.BigCall
import Derived.BigGuard
import Derived.CellFam
import Derived.WalkSpells
import Derived.WalkLawsBesides
import Derived.WalkSmall
import Derived.IntWalk
namespace Go.Proofs.YtdcajkagakikiaaGreatDoor
set_option maxHeartbeats 64000000
set_option linter.unusedSimpArgs false
set_option linter.unusedVariables false
open Go Go.RowKit Go.Sort
def PowAt(w:World):Prop:=Lib.TabIs Tryz.prog w "internal/strconv.uint64pow10" .u64 Lib.pow10Tab
theorem PowAt.below{w w':World}(h:PowAt w)(hb:Below w.heap.size w w'):PowAt w':=Lib.tabBelow_of_tabIs h w' hb
theorem ZO3:(Tryz.prog.info? 5).map (fun i=>(i.zero,i.size,i.bytes))=some (some (.int .u8 0),1,1):=by kernel_rfl
theorem Zr1{t:TypeId}{z:Value}{s b:Nat}(h:(Tryz.prog.info? t).map (fun i=>(i.zero,i.size,i.bytes))=some (some z,s,b)):∃i,Tryz.prog.info? t=some i/\i.zero=some z/\i.size=s/\i.bytes=b:=by
 obtain⟨i,hi,hz⟩:=Option.map_eq_some_iff.1 h;simp only[Prod.mk.injEq]at hz;exact⟨i,hi,hz.1,hz.2.1,hz.2.2⟩
def AppR(B n:Nat)(xs:List Value)(ds:List UInt8)(w:World)(e:Ending)(w':World):Prop:=∃v',e=.returned v'/\RowC w' B v' (n+ds.length) (xs++Lib.byteCells ds)/\Below B w w'
set_option maxRecDepth 100000 in
theorem Ze4(B n u:Nat)(hu:u<100)(sv:Value)(xs:List Value)(w:World)(hown:RowC w B sv n xs)(hBw:B<=w.heap.size)(hlim:n+20<=140737488355328) :
  Calls Tryz.prog 160 #[sv,.int .u64 u,.int .i64 10] w (AppR B n xs (Lib.decDigits u) w):=by
 obtain⟨i0,hi,hz0,hz1,hz2⟩:=Zr1 ZO3
 have A0:(Lib.decDigits u).length<=20:=by
  rw[Lib.decDigits_length]
  by_cases h10:u<10
  ·rw[Lib.nDigits_small h10];omega
  ·rw[Lib.nDigits_big h10,Lib.nDigits_small (show u / 10<10 by omega)];omega
 have A3:(⟨(Lib.decDigits u).toArray⟩:ByteArray).size=(Lib.decDigits u).length:=by simp[ByteArray.size]
 have HS:=Yh (fun w=>Tryz.internal_strconv_small u hu w);have A4:=Yh A3;have A2:=Yh A0;have A1:=Yh hown;clear A3 A0 hown;go_enter Tryz.func160,Tryz.ntmps160;go_wp2_with fail;refine(HS.o w).mono ?_;rintro e w' ⟨rfl,rfl⟩;go_wp2_with (at_builtin;refine Zp4 _ rfl _ _ rfl B Tryz.underlying186 Tryz.underlying9 hi hz0 hz1 hz2 _ _ _ rfl A1.o ⟨(Lib.decDigits u).toArray⟩ rfl (by rw[A4.o];have:=A2.o;omega) hBw ?_);intro v' w1 hown' hgrow;have HO:=Yh hown';have HG:=Yh hgrow;clear hown' hgrow;go_wp2_with fail;go_ret;refine⟨v',rfl,?_,(Y8 B _).grown HG.o hBw (fun k hk=>(A1.o.lt k hk).1)⟩;exact HO.o
set_option maxRecDepth 100000 in
theorem ZT5(B n u:Nat)(hu:100<=u)(hu64:u<18446744073709551616)(sv:Value)(xs:List Value)(w:World)(hown:RowC w B sv n xs)(hBw:B<=w.heap.size)(hlim:n+20<=140737488355328)(htab:PowAt w) :
  Calls Tryz.prog 160 #[sv,.int .u64 u,.int .i64 10] w (AppR B n xs (Lib.decDigits u) w):=by
 obtain⟨i0,hi,hz0,hz1,hz2⟩:=Zr1 ZO3;have A6:1<=u:=by omega
 have A7:Lib.nDigits u<=20:=by have:=Lib.numDigits_eq u A6 hu64;split at this<;>omega
 have A8:Tryz.prog.arrayLen 222=24:=by simp[Program.arrayLen,Tryz.underlying222]
 have Ab:∀W,(Instr.sliceAt 222 (.pointer (some ⟨w.heap.size,0,none⟩)) none (some (.int .i64 (Lib.nDigits u:Int))) none).run Tryz.prog W=.ok (.slice (some ⟨w.heap.size,0,none⟩) (Lib.nDigits u) 24) W:=fun W=>by
  rw[run_sliceAt_array_h W 222 ⟨w.heap.size,0,none⟩ (by simp[Program.arrayLen,Program.elem,Tryz.underlying222]) .i64 (Lib.nDigits u:Int) (by omega) (by rw[A8];omega)];go_simp
 have A5:=Lib.holds_zero0 w 222 (Lib.nDigits u) (by omega);have A2:=Tryz.internal_strconv_formatBase10 w.heap.size 0 24 u (Array.replicate (Lib.nDigits u) 0) (w.alloc (.cells Lib.zeros24 222)) A5 (by rw[Array.size_replicate];exact Lib.lt_pow_nDigits u) hu64 (by rw[Array.size_replicate];omega);rw[Array.size_replicate]at A2;have A9:=Yh A5;have HN:=Yh (Tryz.internal_strconv_numDigits u A6 hu64 _ (Lib.tabIs_alloc htab (.cells Lib.zeros24 222)));have iu:(100:Int)<=(u:Int):=by omega
 have A3:=Yh hown;clear A5 A8 hown;go_enter Tryz.func160,Tryz.ntmps160;go_wp2_with (go_at_call 168;refine HN.o.mono ?_;rintro e w' ⟨rfl,rfl⟩);refine A2.mono ?_;rintro e w' ⟨rfl,k,v',dk,rfl,hF⟩
 have A0:∀j u',(Lib.byteCells (Lib.decDigits u))[j]? = some u'->((putRow (fun(b:UInt8)=>Value.int .u8 (b.toNat:Int)) (w.alloc (.cells Lib.zeros24 222)) w.heap.size 0 dk).drewN k).cell? ((⟨w.heap.size,0,none⟩:Addr).add j)=some u':=by
  intro j u' hj
  have A4:j<(Lib.decDigits u).length:=by
   have h5:=(YI.1 hj).1
   rwa [Lib.byteCells_length]at h5
  have e5:(Lib.byteCells (Lib.decDigits u))[j]? = some (Value.int .u8 ((Lib.decDigits u)[j].toNat:Int)):=by simp[Lib.byteCells,A4]
  rw[e5]at hj
  cases hj
  rw[Lib.row_is_numeral hF j A4,Lib.add_plain,World.cell?_drewN];exact cell?_putRow (fun(b:UInt8)=>Value.int .u8 (b.toNat:Int)) _ w.heap.size 0 _ dk A9.o (by rw[hF.size,Array.size_replicate]) j (by rw[hF.size];rw[Lib.decDigits_length]at A4;exact A4)
 obtain⟨os,eo⟩:=Lib.fin_at w (.cells Lib.zeros24 222) dk k 0;have A1:Below w.heap.size w ((putRow (fun(b:UInt8)=>Value.int .u8 (b.toNat:Int)) (w.alloc (.cells Lib.zeros24 222)) w.heap.size 0 dk).drewN k):=by rw[eo];exact Lib.below_grow _ w (Yk _) k os
 generalize (putRow (fun(b:UInt8)=>Value.int .u8 (b.toNat:Int)) (w.alloc (.cells Lib.zeros24 222)) w.heap.size 0 dk).drewN k=W2 at A0 A1 ⊢
 have HC:=Yh A0;have HB:=Yh A1;have Aa:=Yh (A3.o.below A1);clear eo A9 A2 A0 A1;go_wp2_with (at_builtin;refine Zd1 _ rfl _ _ rfl B Tryz.underlying186 hi hz0 hz1 hz2 _ _ _ rfl Aa.o ⟨w.heap.size,0,none⟩ (Lib.nDigits u) 24 (Lib.byteCells (Lib.decDigits u)) rfl ?c0 HC.o ?c2 ?c3 ?c5 ?_)
 case c0=>rw[Lib.byteCells_length,Lib.decDigits_length]
 case c2=>intro u' hu';simp only[Lib.byteCells,Y4]at hu';obtain⟨b,_,rfl⟩:=hu';rfl
 case c3=>omega
 case c5=>have:=HB.o.size;omega
 intro v2 w3 hown' hgrow;have HO:=Yh hown';have HG:=Yh hgrow;clear hown' hgrow;go_wp2_with fail;go_ret;refine⟨v2,rfl,?_,(HB.o.mono hBw).grown HG.o (by have:=HB.o.size;omega) (fun k hk=>(A3.o.lt k hk).1)⟩;rw[Lib.decDigits_length];exact HO.o
theorem Zh2(B n u:Nat)(hu64:u<18446744073709551616)(sv:Value)(xs:List Value)(w:World)(hown:RowC w B sv n xs)(hBw:B<=w.heap.size)(hlim:n+20<=140737488355328)(htab:PowAt w) :
  Calls Tryz.prog 160 #[sv,.int .u64 u,.int .i64 10] w (AppR B n xs (Lib.decDigits u) w):=by
 by_cases h:u<100
 ·exact Ze4 B n u h sv xs w hown hBw hlim
 ·exact ZT5 B n u (by omega) hu64 sv xs w hown hBw hlim htab
set_option maxRecDepth 100000 in
theorem Zw7(W:World)(n:Nat)(i:Int)(h0:-9223372036854775808<=i)(h1:i<=9223372036854775807)(sv:Value)(xs:List Value)(w:World)(hown:RowC w W.heap.size sv n xs)(hBw:Below W.heap.size W w)(hlim:n+21<=140737488355328)(htab:PowAt W) :
  Calls Tryz.prog 151 #[sv,.int .i64 i,.int .i64 10] w (AppR W.heap.size n xs (Lib.itoa i) w):=by
 obtain⟨i0,hi,hz0,hz1,hz2⟩:=Zr1 ZO3;have A1:=Yh hown
 by_cases hneg:i<0
 ·obtain⟨u,rfl⟩:∃u:Nat,i = -(u:Int):=⟨i.natAbs,by omega⟩
  have A4:1<=u:=by omega
  have A0:u<18446744073709551616:=by omega
  have A6:IntKind.u64.wrap (-IntKind.u64.wrap (-(u:Int)))=(u:Int):=by rw[IntKind.wrap_u64,IntKind.wrap_u64];omega
  rw[Lib.itoa_neg u A4];have HB:=Yh hBw;clear hown hBw;go_enter Tryz.func151,Tryz.ntmps151;go_wp2_with (at_builtin;refine Zd1 _ rfl _ _ rfl W.heap.size Tryz.underlying186 hi hz0 hz1 hz2 _ _ _ rfl (A1.o.alloc _) ⟨w.heap.size,0,none⟩ 1 1 [Value.int .u8 45] rfl rfl ?c1 ?c2 ?c3 ?c4 ?_)
  case c1=>intro j u' hj;match j,hj with|0,hj=>simp at hj;subst hj;simp[Addr.add]
  case c2=>intro u' hu';simp at hu';subst hu';rfl
  case c3=>omega
  case c4=>have:=HB.o.size;simp;omega
  intro v1 w1 hown1 hgrow;have HN:=Yh (((Y8 W.heap.size w).alloc (by exact HB.o.size) _).grown hgrow (by have:=HB.o.size;simp;omega) (fun k hk=>(A1.o.lt k hk).1));have A5:=Yh hown1;clear hown1 hgrow;go_wp2_with fail;refine(Zh2 W.heap.size (n+1) u A0 v1 _ w1 A5.o (by have:=HN.o.size;have:=HB.o.size;omega) (by omega) (htab.below (HB.o.trans HN.o))).mono ?_;rintro e w2 ⟨v2,rfl,hown2,hnx2⟩;have A2:=Yh hown2;have A3:=Yh hnx2;clear hown2 hnx2;go_wp2_with fail;go_ret;refine⟨v2,rfl,?_,HN.o.trans A3.o⟩;have e1:n+((45:UInt8)::Lib.decDigits u).length=n+1+(Lib.decDigits u).length:=by rw[List.length_cons];omega
  have e2:xs++Lib.byteCells (45::Lib.decDigits u)=xs++[Value.int .u8 45]++Lib.byteCells (Lib.decDigits u):=by simp[Lib.byteCells]
  rw[e1,e2];exact A2.o
 ·obtain⟨u,rfl⟩:∃u:Nat,i=u:=⟨i.toNat,by omega⟩
  have A0:u<18446744073709551616:=by omega
  rw[Lib.itoa_nonneg];have HU:=Yh (Zh2 W.heap.size n u A0 sv xs w hown hBw.size (by omega) (htab.below hBw));clear hown;go_enter Tryz.func151,Tryz.ntmps151;go_wp2_with fail;refine HU.o.mono ?_;rintro e w2 ⟨v2,rfl,hown2,hnx2⟩;have A2:=Yh hown2;have A3:=Yh hnx2;clear hown2 hnx2;go_wp2_with fail
  first|go_ret|go_ret2
  exact⟨v2,rfl,A2.o,A3.o⟩
theorem Z87(W:World)(n:Nat)(i:Int)(h0:-9223372036854775808<=i)(h1:i<=9223372036854775807)(sv:Value)(xs:List Value)(w:World)(hown:RowC w W.heap.size sv n xs)(hBw:Below W.heap.size W w)(hlim:n+21<=140737488355328)(htab:PowAt W) :
  Calls Tryz.prog 133 #[sv,.int .i64 i,.int .i64 10] w (AppR W.heap.size n xs (Lib.itoa i) w):=by
 have HI:=Yh (Zw7 W n i h0 h1 sv xs w hown hBw hlim htab);clear hown hBw htab;go_enter Tryz.func133,Tryz.ntmps133;go_wp2_with fail;refine HI.o.mono ?_;rintro e w2 ⟨v2,rfl,hown2,hnx2⟩;have A0:=Yh hown2;have A1:=Yh hnx2;clear hown2 hnx2;go_wp2_with fail;go_ret;exact⟨v2,rfl,A0.o,A1.o⟩
open Go.RowKit
def letB(c:Int):Bool:=decide ((97<=c/\c<=122)\/(65<=c/\c<=90)\/c=95)
def upB(c:Int):Bool:=decide (65<=c/\c<=90)
def digB(c:Int):Bool:=decide (48<=c/\c<=57)
theorem Z0{a b:Bool}(h:a=b):Ending.returned (.bool a)=.returned (.bool b):=by rw[h]
theorem Zp{k:IntKind}{a b:Int}(h:a=b):Ending.returned (.int k a)=.returned (.int k b):=by rw[h]
theorem Zka(c:Int)(w:World) :
  Calls Tryz.prog 68 #[.int .u8 c] w fun e w'=>e=.returned (.bool (upB c))/\w=w':=by
 go_enter Tryz.func68,Tryz.ntmps68;go_wp2
 all_goals
  go_ret;exact⟨by simp[upB];try omega,rfl⟩
theorem Z10(c:Int)(w:World) :
  Calls Tryz.prog 43 #[.int .u8 c] w fun e w'=>e=.returned (.bool (letB c))/\w=w':=by
 go_enter Tryz.func43,Tryz.ntmps43;go_wp2_with (go_at_call 68;refine(Zka _ _).mono ?_;rintro e w' ⟨rfl,rfl⟩)
 all_goals
  go_ret;exact⟨Z0 (by rw[Bool.eq_iff_iff];simp_all [letB,upB];try omega),rfl⟩
theorem ZI(c:Int)(w:World) :
  Calls Tryz.prog 27 #[.int .u8 c] w fun e w'=>e=.returned (.bool (letB c))/\w=w':=by
 go_enter Tryz.func27,Tryz.ntmps27;go_wp2
 all_goals
  go_ret;exact⟨Z0 (by rw[Bool.eq_iff_iff];simp_all [letB];try omega),rfl⟩
def inB(c:Int):Bool:=letB c||digB c
def byteAt(s:ByteArray)(k:Nat):Int:=((s.data[k]?.getD 0).toNat:Int)
theorem Zm{s:ByteArray}{k:Nat}(h:k<s.size):byteAt s k=(s[k].toNat:Int):=by
 unfold byteAt;rw[Array.getElem?_eq_getElem (by simpa using h)]
 rfl
def nameB(s:ByteArray):Bool:=decide (0<s.size/\s.size<=20/\letB (byteAt s 0)=true/\∀k,k<s.size->inB (byteAt s k)=true)
theorem Zz0{s:ByteArray}(h:0<s.size):s.toList.isEmpty=false:=by
 rw[ByteArray.toList_eq,List.isEmpty_eq_false_iff];intro e;have:s.data.toList.length=0:=by rw[e];rfl
 have h2:s.data.toList.length=s.size:=by simp
 omega
theorem Zf2{s:ByteArray}(h:0<s.size):¬s.toList=[]:=by
 have:=Zz0 h;intro e;rw[e]at this
 cases this
theorem Za5{s:ByteArray}(h:s.size=0):s.toList=[]:=by
 rw[ByteArray.toList_eq];exact Yp (by simpa using h)
theorem ZZ0(s:ByteArray)(h:¬(0<s.size/\s.size<=20/\letB (byteAt s 0)=true)):nameB s=false:=by
 unfold nameB;rw[Y1];exact fun⟨a,b,c,_⟩=>h ⟨a,b,c⟩
theorem ZZ6(s:ByteArray)(k:Nat)(hk:k<s.size)(h:inB (byteAt s k)=false):nameB s=false:=by
 unfold nameB;rw[Y1];exact fun⟨_,_,_,d⟩=>by have:=d k hk;rw[h]at this;cases this
theorem ZL6(s:ByteArray)(a:0<s.size)(b:s.size<=20)(c:letB (byteAt s 0)=true)(d:∀k,k<s.size->inB (byteAt s k)=true):nameB s=true:=by
 unfold nameB;rw[decide_eq_true_iff];exact⟨a,b,c,d⟩
def OkTo(s:ByteArray)(k:Nat):Prop:=∀j,j<k->inB (byteAt s j)=true
theorem ZA3{s:ByteArray}{k:Nat}(h:OkTo s k)(hk:inB (byteAt s k)=true):OkTo s (k+1):=by
 intro j hj
 by_cases e:j=k
 ·subst e;exact hk
 ·exact h j (by omega)
theorem Zp0(s:ByteArray)(w:World)(hs:s.size<=9223372036854775807) :
  Calls Tryz.prog 18 #[.string s] w fun e w'=>e=.returned (.bool (nameB s))/\w=w':=by
 by_cases h0:s.size=0
 ·have e0:=Za5 h0
  have hn:=Yh (ZZ0 s (by omega));clear h0;go_enter Tryz.func18,Tryz.ntmps18;go_wp2_with (go_at_call 43;refine(Z10 _ _).mono ?_;rintro e w' ⟨rfl,rfl⟩);go_ret;exact⟨Z0 hn.o.symm,rfl⟩
 have A0:0<s.size:=by omega
 have e0:=Zz0 A0;have e1:=Zf2 A0
 by_cases h1:20<s.size
 ·have hn:=Yh (ZZ0 s (by omega))
  go_enter Tryz.func18,Tryz.ntmps18;go_wp2_with (go_at_call 43;refine(Z10 _ _).mono ?_;rintro e w' ⟨rfl,rfl⟩);go_ret;exact⟨Z0 hn.o.symm,rfl⟩
 have A2:s.size<=20:=by omega
 by_cases h2:letB (byteAt s 0)=true
 ·have h3:=h2
  rw[Zm A0]at h3;go_enter Tryz.func18,Tryz.ntmps18;go_wp2_with (go_at_call 43;refine(Z10 _ _).mono ?_;rintro e w' ⟨rfl,rfl⟩);go_loop [3,19] (fun _ i=>∃k:Nat,k<=s.size/\i=.int .i64 k/\OkTo s k) (fun _ i=>s.size-(intOf i).toNat)
  case atStart=>exact⟨0,Yl _,rfl,fun j hj=>absurd hj (Yr _)⟩
  case round =>
   obtain⟨k,hk,rfl,hok⟩:=hrel
   by_cases hlt:k<s.size
   ·have hb:=Zm hlt
    by_cases hin:inB (byteAt s k)=true
    ·have A1:=ZA3 hok hin
     rw[hb]at hin;simp only[inB,Bool.or_eq_true]at hin;clear hb
     cases hl:letB (s[k].toNat:Int)
     ·have hd:digB (s[k].toNat:Int)=true:=by simpa [hl] using hin
      simp only[digB,decide_eq_true_iff]at hd;obtain⟨hd1,A3⟩:=hd;clear hin;go_wp2_with (go_at_call 43;refine(Z10 _ _).mono ?_;rintro e w' ⟨rfl,rfl⟩);go_round
      case rel=>exact⟨k+1,by omega,by go_num,A1⟩
      case measure=>simp[intOf];omega
     ·clear hin
      go_wp2_with (go_at_call 43;refine(Z10 _ _).mono ?_;rintro e w' ⟨rfl,rfl⟩);go_round
      case rel=>exact⟨k+1,by omega,by go_num,A1⟩
      case measure=>simp[intOf];omega
    ·have hn:=Yh (ZZ6 s k hlt (by simpa using hin))
     rw[hb]at hin;simp only[inB,Bool.or_eq_true,not_or,Bool.not_eq_true,digB,Y1]at hin;obtain⟨hl,hd⟩:=hin;clear hb
     by_cases hd1:(s[k].toNat:Int)<48
     ·go_wp2_with (go_at_call 43;refine(Z10 _ _).mono ?_;rintro e w' ⟨rfl,rfl⟩)
      go_ret;exact⟨Z0 hn.o.symm,rfl⟩
     ·have A3:57<(s[k].toNat:Int):=by omega
      go_wp2_with (go_at_call 43;refine(Z10 _ _).mono ?_;rintro e w' ⟨rfl,rfl⟩);go_ret;exact⟨Z0 hn.o.symm,rfl⟩
   ·go_wp2_with (go_at_call 43;refine(Z10 _ _).mono ?_;rintro e w' ⟨rfl,rfl⟩)
    have:k=s.size:=by omega
    subst this;go_ret;exact⟨Z0 (ZL6 s A0 A2 h2 hok).symm,rfl⟩
 ·have hn:=Yh (ZZ0 s (fun h=>h2 h.2.2))
  have h3:=h2;rw[Zm A0]at h3;simp only[Bool.not_eq_true]at h3;clear h2;go_enter Tryz.func18,Tryz.ntmps18;go_wp2_with (go_at_call 43;refine(Z10 _ _).mono ?_;rintro e w' ⟨rfl,rfl⟩);go_ret;exact⟨Z0 hn.o.symm,rfl⟩
theorem ZO(s:ByteArray)(w:World)(hs:s.size<=9223372036854775807) :
  Calls Tryz.prog 11 #[.string s] w fun e w'=>e=.returned (.bool (nameB s))/\w=w':=by
 go_enter Tryz.func11,Tryz.ntmps11;go_wp2_with fail;go_loop [3,4] (fun i _=>∃k:Nat,k<=s.size/\i=.int .i64 k/\OkTo s k/\(0<k->letB (byteAt s 0)=true)) (fun i _=>s.size-(intOf i).toNat)
 case atStart=>exact⟨0,Yl _,rfl,fun j hj=>absurd hj (Yr _),fun h=>absurd h (Nat.lt_irrefl _)⟩
 case round =>
  obtain⟨k,hk,rfl,hok,hfst⟩:=hrel
  by_cases hlt:k<s.size
  ·have hb:=Zm hlt
   have A0:∀c:Int,digB c=decide (48<=c/\c<=57):=fun _=>rfl
   cases hl:letB (s[k].toNat:Int)
   ·by_cases hd:48<=(s[k].toNat:Int)/\(s[k].toNat:Int)<=57
    ·by_cases hk0:k=0
     ·subst hk0
      have hn:=Yh (ZZ0 s (by intro⟨_,_,h⟩;rw[hb,hl]at h;cases h));obtain⟨hd1,A2⟩:=hd;clear hb A0 hfst hok;go_wp2_with (go_at_call 27;refine(ZI _ _).mono ?_;rintro e w' ⟨rfl,rfl⟩);go_ret;exact⟨Z0 hn.o.symm,rfl⟩
     ·have A1:=ZA3 hok (by rw[hb,inB,A0];simp[hd])
      have hf:=hfst (by omega);obtain⟨hd1,A2⟩:=hd;have A4:((k:Int)==0)=false:=by simpa using hk0
      have Hf:=Yh hf;clear hb A0 hfst hok hf;go_wp2_with (go_at_call 27;refine(ZI _ _).mono ?_;rintro e w' ⟨rfl,rfl⟩);go_round
      case rel=>exact⟨k+1,by omega,by go_num,A1,fun _=>Hf.o⟩
      case measure=>simp[intOf];omega
    ·have hn:=Yh (ZZ6 s k hlt (by rw[hb,inB,A0,hl];simp;omega))
     clear hb A0 hfst hok
     by_cases hd1:48<=(s[k].toNat:Int)
     ·have A2:57<(s[k].toNat:Int):=by omega
      clear hd;go_wp2_with (go_at_call 27;refine(ZI _ _).mono ?_;rintro e w' ⟨rfl,rfl⟩);go_ret;exact⟨Z0 hn.o.symm,rfl⟩
     ·clear hd
      go_wp2_with (go_at_call 27;refine(ZI _ _).mono ?_;rintro e w' ⟨rfl,rfl⟩);go_ret;exact⟨Z0 hn.o.symm,rfl⟩
   ·have A1:=ZA3 hok (by rw[hb,inB,hl];rfl)
    have hf:letB (byteAt s 0)=true:=by
     by_cases hk0:k=0
     ·subst hk0;rw[hb];exact hl
     ·exact hfst (by omega)
    have Hf:=Yh hf;clear hb A0 hfst hok hf
    by_cases hd1:48<=(s[k].toNat:Int)
    ·go_wp2_with (go_at_call 27;refine(ZI _ _).mono ?_;rintro e w' ⟨rfl,rfl⟩)
     go_round
     case rel=>exact⟨k+1,by omega,by go_num,A1,fun _=>Hf.o⟩
     case measure=>simp[intOf];omega
    ·go_wp2_with (go_at_call 27;refine(ZI _ _).mono ?_;rintro e w' ⟨rfl,rfl⟩)
     go_round
     case rel=>exact⟨k+1,by omega,by go_num,A1,fun _=>Hf.o⟩
     case measure=>simp[intOf];omega
  ·have A3:k=s.size:=by omega
   subst A3
   by_cases h0:0<s.size
   ·by_cases h1:s.size<=20
    ·have hn:=Yh (ZL6 s h0 h1 (hfst h0) hok)
     clear hfst;go_wp2_with (go_at_call 27;refine(ZI _ _).mono ?_;rintro e w' ⟨rfl,rfl⟩);go_ret;exact⟨Z0 (by rw[hn.o];simp;omega),rfl⟩
    ·have hn:=Yh (ZZ0 s (fun h=>h1 h.2.1))
     clear hfst;go_wp2_with (go_at_call 27;refine(ZI _ _).mono ?_;rintro e w' ⟨rfl,rfl⟩);go_ret;exact⟨Z0 (by rw[hn.o];simp;omega),rfl⟩
   ·have hn:=Yh (ZZ0 s (fun h=>h0 h.1))
    clear hfst;go_wp2_with (go_at_call 27;refine(ZI _ _).mono ?_;rintro e w' ⟨rfl,rfl⟩);go_ret;exact⟨Z0 hn.o.symm,rfl⟩
def pubB(s:ByteArray):Bool:=nameB s&&upB (byteAt s 0)
structure Ty where
 kind:Int
 name:ByteArray
 n:Int
 words:List ByteArray
 kids:List Int
deriving DecidableEq
def TySm(t:Ty):Prop:=∀s∈t.words,s.size<=1100000
def basicNames:List ByteArray:=[⟨#[98,111,111,108]⟩,⟨#[115,116,114,105,110,103]⟩,⟨#[105,110,116]⟩,⟨#[105,110,116,56]⟩,⟨#[105,110,116,49,54]⟩,⟨#[105,110,116,51,50]⟩,⟨#[105,110,116,54,52]⟩,⟨#[117,105,110,116]⟩,⟨#[117,105,110,116,56]⟩,⟨#[117,105,110,116,49,54]⟩,⟨#[117,105,110,116,51,50]⟩,⟨#[117,105,110,116,54,52]⟩,⟨#[102,108,111,97,116,51,50]⟩,⟨#[102,108,111,97,116,54,52]⟩,
 ⟨#[117,110,116,121,112,101,100,32,98,111,111,108]⟩,⟨#[117,110,116,121,112,101,100,32,115,116,114,105,110,103]⟩,⟨#[117,110,116,121,112,101,100,32,105,110,116]⟩,⟨#[117,110,116,121,112,101,100,32,114,117,110,101]⟩,⟨#[117,110,116,121,112,101,100,32,102,108,111,97,116]⟩,⟨#[117,110,116,121,112,101,100,32,110,105,108]⟩]
def basics:List Ty:=basicNames.map (fun s=>⟨0,s,0,[],[]⟩)++[⟨7,⟨#[]⟩,0,[],[]⟩,⟨7,⟨#[]⟩,1,[],[]⟩]
theorem ZH:basics.length=22:=rfl
def fieldT(w:ByteArray):ByteArray:=if 0<w.size/\byteAt w 0=43 then w.extract 1 w.size else w
def blankB(w:ByteArray):Bool:=w.toList==[95]
def markB(w:ByteArray):Bool:=w.toList==[61]||w.toList==[126]
def fieldB(ws:List ByteArray)(i:Nat)(w:ByteArray):Bool:=
 nameB (fieldT w)&&(ws.take i).all (fun x=>!((fieldT x).toList==(fieldT w).toList&&!blankB (fieldT w)))
def fieldsB(ws:List ByteArray):Bool:=(List.range ws.length).all fun i=>fieldB ws i (ws.getD i ⟨#[]⟩)
def kindAt(l:List Ty)(k:Int):Int:=((l[k.toNat]?).map (·.kind)).getD 0
def elemB(l:List Ty)(n:Int)(ahead:Option (ByteArray×Int))(w:ByteArray)(k:Int):Bool:=
 if markB w=true then
  decide (2<=n/\kindAt l k≠7/\kindAt l k≠9/\¬(14<=k/\k<=19))&&(match ahead with|none=>true|some (v,j)=>!(markB v&&decide (k<=j)))
 else nameB w&&decide (kindAt l k=5)&&(match ahead with|none=>true|some (v,_)=>!markB v&&Op.bytesLess v.toList w.toList)
def aheadOf(ws:List ByteArray)(ks:List Int)(i:Nat):Option (ByteArray×Int):=if i=0 then none else some (ws.getD (i-1) ⟨#[]⟩,ks.getD (i-1) 0)
def elemsB(l:List Ty)(n:Int)(ws:List ByteArray)(ks:List Int):Bool:=(List.range ws.length).all fun i=>elemB l n (aheadOf ws ks i) (ws.getD i ⟨#[]⟩) (ks.getD i 0)
def dotAt(s:ByteArray):Option Nat:=(List.range s.size).find? fun i=>decide (byteAt s i=46)
def namedB(s:ByteArray):Bool:=match dotAt s with
 | none=>false
 | some i=>nameB (s.extract 0 i)&&nameB (s.extract (i+1) s.size)
def kidsB(l:List Ty)(ks:List Int):Bool:=ks.all fun k=>decide (0<=k/\k<(l.length:Int))
def bareB(t:Ty):Bool:=decide (t.name.size=0/\t.words=[])
def madeB(l:List Ty)(t:Ty):Bool:=
 kidsB l t.kids&&(
 if t.kind=1\/t.kind=2 then bareB t&&decide (t.kids.length=1/\t.n=0)
 else if t.kind=3 then bareB t&&decide (t.kids.length=1/\0<=t.n/\t.n<=2147483648)
 else if t.kind=4 then bareB t&&decide (t.kids.length=2/\t.n=0)
 else if t.kind=5 then bareB t&&decide (t.kids.length<=16/\(t.n=0\/t.n=1/\0<t.kids.length))
 else if t.kind=6 then decide (t.name.size=0/\t.n=0/\t.kids.length<=16/\t.words.length=t.kids.length)&&fieldsB t.words
 else if t.kind=7 then decide (t.name.size=0/\0<=t.n/\t.n<=3/\t.kids.length<=16/\t.words.length=t.kids.length)&&elemsB l t.n t.words t.kids
 else if t.kind=8 then namedB t.name&&decide (t.kids.length<=16/\t.n=0/\t.words=[])
 else if t.kind=9 then bareB t&&decide (t.kids.length=0/\0<=t.n/\t.n<16)
 else false)
def atT(l:List Ty)(t:Ty):Int:=match l.findIdx? (fun x=>decide (x=t))with
 | none=>-1
 | some i=>(i:Int)
def stepB(l:List Ty)(i:Nat)(t:Ty):Bool:=
 if i<22 then decide (some t=basics[i]?)else madeB (l.take i) t&&decide (t ∉ l.take i)
def rightT(l:List Ty):Bool:=decide (22<=l.length/\l.length<=400)&&(List.range l.length).all fun i=>match l[i]? with
 | none=>true
 | some t=>stepB l i t
theorem atT_neg{l:List Ty}{t:Ty}:atT l t<0↔t ∉ l:=by
 unfold atT
 cases h:l.findIdx? (fun x=>decide (x=t))with
 | none =>
  rw[List.findIdx?_eq_none_iff]at h;simp only
  constructor
  ·intro _ hm
   have:=h t hm;simp at this
  ·intro _;decide
 | some i =>
  simp only
  constructor
  ·intro hh;omega
  ·intro hm
   rw[List.findIdx?_eq_some_iff_getElem]at h;obtain⟨hi,hp,_⟩:=h;exact absurd (by rw[<-Yf hp];exact Yq hi) hm
theorem Zk(a b:ByteArray):(a.toList==b.toList)=decide (a=b):=by
 rw[Bool.eq_iff_iff,YK,decide_eq_true_iff,ByteArray.toList_eq,ByteArray.toList_eq]
 constructor
 ·intro h
  exact ByteArray.ext (Array.toList_inj.1 h)
 ·rintro rfl
  rfl
def SRow(w:World)(ao:Option Addr)(ss:List ByteArray):Prop:=
 ss=[]\/∃b off,ao=some ⟨b,off,none⟩/\b<w.heap.size/\∀i,i<ss.length->w.cell? ⟨b,off+i,none⟩=some (.string (ss.getD i ⟨#[]⟩))
theorem SRow.below{w w':World}{ao:Option Addr}{ss:List ByteArray}(h:SRow w ao ss)(hb:Below w.heap.size w w'):SRow w' ao ss:=by
 rcases h with h|⟨b,off,h1,h2,h3⟩
 ·exact .inl h
 ·exact .inr ⟨b,off,h1,Yi h2 hb.size,fun i hi=>by rw[hb.cell (p:=⟨b,off+i,none⟩) h2];exact h3 i hi⟩
theorem SRow.cells{w:World}{ao:Option Addr}{ss:List ByteArray}(h:SRow w ao ss)(hn:0<ss.length):∃b off,ao=some ⟨b,off,none⟩/\b<w.heap.size/\∀i,i<ss.length->w.cell? ⟨b,off+i,none⟩=some (.string (ss.getD i ⟨#[]⟩)):=by
 rcases h with h|h
 ·rw[h]at hn;exact absurd hn (by simp)
 ·exact h
def IRow(w:World)(ao:Option Addr)(zs:List Int):Prop:=
 zs=[]\/∃b off,ao=some ⟨b,off,none⟩/\b<w.heap.size/\∀i,i<zs.length->w.cell? ⟨b,off+i,none⟩=some (.int .i64 (zs.getD i 0))
theorem IRow.below{w w':World}{ao:Option Addr}{zs:List Int}(h:IRow w ao zs)(hb:Below w.heap.size w w'):IRow w' ao zs:=by
 rcases h with h|⟨b,off,h1,h2,h3⟩
 ·exact .inl h
 ·exact .inr ⟨b,off,h1,Yi h2 hb.size,fun i hi=>by rw[hb.cell (p:=⟨b,off+i,none⟩) h2];exact h3 i hi⟩
theorem IRow.cells{w:World}{ao:Option Addr}{zs:List Int}(h:IRow w ao zs)(hn:0<zs.length):∃b off,ao=some ⟨b,off,none⟩/\b<w.heap.size/\∀i,i<zs.length->w.cell? ⟨b,off+i,none⟩=some (.int .i64 (zs.getD i 0)):=by
 rcases h with h|h
 ·rw[h]at hn;exact absurd hn (by simp)
 ·exact h
structure TyOk (t:Ty):Prop where
 nl:t.name.size<=50
 wl:t.words.length<=18
 kl:t.kids.length<=18
 ws:∀s∈t.words,s.size<=9223372036854775807
 nums:(-9223372036854775808<=t.kind/\t.kind<=9223372036854775807)/\-9223372036854775808<=t.n/\t.n<=9223372036854775807
 ks:∀k∈t.kids,-9223372036854775808<=k/\k<=9223372036854775807
def tyV(t:Ty)(wo:Option Addr)(wc:Nat)(ko:Option Addr)(kc:Nat):Value:=
 .agg #[.int .i64 t.kind,.string t.name,.int .i64 t.n,.slice wo t.words.length wc,.slice ko t.kids.length kc]
structure TyC (w:World) (wo ko:Option Addr) (t:Ty):Prop where
 words:SRow w wo t.words
 kids:IRow w ko t.kids
 ok:TyOk t
theorem TyC.below{w w':World}{wo ko:Option Addr}{t:Ty}(h:TyC w wo ko t)(hb:Below w.heap.size w w'):TyC w' wo ko t:=
 ⟨h.words.below hb,h.kids.below hb,h.ok⟩
def TyAt(w:World)(b o:Nat)(t:Ty):Prop:=
 ∃wo wc ko kc,w.cell? ⟨b,o,none⟩=some (.int .i64 t.kind)/\w.cell? ⟨b,o+1,none⟩=some (.string t.name)/\w.cell? ⟨b,o+2,none⟩=some (.int .i64 t.n) /\
  w.cell? ⟨b,o+3,none⟩=some (.slice wo t.words.length wc)/\w.cell? ⟨b,o+4,none⟩=some (.slice ko t.kids.length kc)/\t.words.length<=wc/\t.kids.length<=kc/\TyC w wo ko t
theorem TyAt.below{w w':World}{b o:Nat}{t:Ty}(h:TyAt w b o t)(hlt:b<w.heap.size)(hb:Below w.heap.size w w'):TyAt w' b o t:=by
 obtain⟨wo,wc,ko,kc,h1,h2,h3,h4,h5,h6,h7,h8⟩:=h;refine⟨wo,wc,ko,kc,?_,?_,?_,?_,?_,h6,h7,h8.below hb⟩
 ·rw[hb.cell (p:=⟨b,o,none⟩) hlt];exact h1
 ·rw[hb.cell (p:=⟨b,o+1,none⟩) hlt];exact h2
 ·rw[hb.cell (p:=⟨b,o+2,none⟩) hlt];exact h3
 ·rw[hb.cell (p:=⟨b,o+3,none⟩) hlt];exact h4
 ·rw[hb.cell (p:=⟨b,o+4,none⟩) hlt];exact h5
def ARow(w:World)(ao:Option Addr)(l:List Ty):Prop:=
 l=[]\/∃b off,ao=some ⟨b,off,none⟩/\b<w.heap.size/\∀i (h:i<l.length),TyAt w b (off+i*5) l[i]
theorem ARow.below{w w':World}{ao:Option Addr}{l:List Ty}(h:ARow w ao l)(hb:Below w.heap.size w w'):ARow w' ao l:=by
 rcases h with h|⟨b,off,h1,h2,h3⟩
 ·exact .inl h
 ·exact .inr ⟨b,off,h1,Yi h2 hb.size,fun i hi=>(h3 i hi).below h2 hb⟩
theorem ARow.cells{w:World}{ao:Option Addr}{l:List Ty}(h:ARow w ao l)(hn:0<l.length):∃b off,ao=some ⟨b,off,none⟩/\b<w.heap.size/\∀i (h:i<l.length),TyAt w b (off+i*5) l[i]:=by
 rcases h with h|h
 ·rw[h]at hn;exact absurd hn (by simp)
 ·exact h
theorem ARow.take{w:World}{ao:Option Addr}{l:List Ty}(h:ARow w ao l)(k:Nat):ARow w ao (l.take k):=by
 rcases h with h|⟨b,off,h1,h2,h3⟩
 ·exact .inl (by rw[h];simp)
 ·refine .inr ⟨b,off,h1,h2,fun i hi=>?_⟩
  rw[List.getElem_take];exact h3 i (by rw[Y5]at hi;omega)
theorem ARow.ok{w:World}{ao:Option Addr}{l:List Ty}(h:ARow w ao l):∀t∈l,TyOk t:=by
 intro t ht;obtain⟨i,hi,rfl⟩:=List.getElem_of_mem ht
 rcases h with h|⟨b,off,h1,h2,h3⟩
 ·subst h;simp at hi
 ·obtain⟨_,_,_,_,_,_,_,_,_,_,_,h8⟩:=h3 i hi
  exact h8.ok
theorem cell5{w:World}{b:Nat}{a0 a1 a2 a3 a4:Value}{T:TypeId}(h:BlockAt w b #[a0,a1,a2,a3,a4] T) :
  w.cell? ⟨b,0,none⟩=some a0/\w.cell? ⟨b,1,none⟩=some a1/\w.cell? ⟨b,2,none⟩=some a2/\w.cell? ⟨b,3,none⟩=some a3/\w.cell? ⟨b,4,none⟩=some a4:=
 ⟨h.cell 0,h.cell 1,h.cell 2,h.cell 3,h.cell 4⟩
theorem Za{w w1:World}{xs:Array Value}{T:TypeId}(h:w.alloc (.cells xs T)=w1):BlockAt w1 w.heap.size xs T/\Below w.heap.size w w1/\w1.heap.size=w.heap.size+1:=by
 subst h;exact⟨BlockAt.new _ _ _,(Y8 _ _).alloc (Yk _) _,by simp⟩
theorem Zd{zs:List Int}{k:Nat}(h:k<zs.length):zs.getD k 0∈zs:=by
 rw[List.getD_eq_getElem?_getD,Yv h];exact Yq h
theorem ZG0{zs:List ByteArray}{k:Nat}(h:k<zs.length):zs.getD k ⟨#[]⟩∈zs:=by
 rw[List.getD_eq_getElem?_getD,Yv h];exact Yq h
theorem Z3{α:Type}{zs:List α}{d:α}{k:Nat}(h:k<zs.length):zs.getD k d=zs[k]:=by
 rw[List.getD_eq_getElem?_getD,Yv h];rfl
theorem ZK1{α:Type}{d:α}{xs ys:List α}(hl:xs.length=ys.length)(h:∀j,j<xs.length->xs.getD j d=ys.getD j d):xs=ys:=by
 refine List.ext_getElem hl fun j h1 h2=>?_
 have:=h j h1
 rwa [Z3 h1,Z3 h2]at this
set_option maxRecDepth 100000 in
theorem Zh4(x y:Ty)(xw xk yw yk:Option Addr)(xwc xkc ywc ykc:Nat)(w:World)(hx:TyC w xw xk x)(hy:TyC w yw yk y) :
  Calls Tryz.prog 51 #[tyV x xw xwc xk xkc,tyV y yw ywc yk ykc] w fun e w'=>e=.returned (.bool (decide (x=y)))/\Below w.heap.size w w':=by
 obtain⟨a,s,n,ws,ks⟩:=x;obtain⟨c,t,m,vs,ls⟩:=y;obtain⟨r,hr⟩:∃r,decide ((⟨a,s,n,ws,ks⟩:Ty)=⟨c,t,m,vs,ls⟩)=r:=⟨_,rfl⟩
 rw[hr];have HR:=Yh hr;clear hr;have l1:ws.length<=18:=hx.ok.wl;have l2:ks.length<=18:=hx.ok.kl;have l3:vs.length<=18:=hy.ok.wl;have l4:ls.length<=18:=hy.ok.kl;have HX:=Yh hx;have HY:=Yh hy;clear hx hy;unfold tyV
 show Calls _ _ #[.agg #[.int .i64 a,.string s,.int .i64 n,.slice xw ws.length xwc,.slice xk ks.length xkc],.agg #[.int .i64 c,.string t,.int .i64 m,.slice yw vs.length ywc,.slice yk ls.length ykc]] _ _
 have A0:=Zk s t
 by_cases c1:a=c
 case neg =>
  have Hn:=@Yh (false=r) (by rw[<-HR.o];symm;rw[Y1];intro e;injection e;contradiction);have hq:(a != c)=true:=by rw[YJ];exact c1
  clear c1;go_enter Tryz.func51,Tryz.ntmps51;go_wp2_with fail;go_ret;exact⟨Z0 Hn.o,((Y8 _ _).alloc (Yk _) _).alloc (by simp) _⟩
 subst c1
 by_cases c2:s=t
 case neg =>
  have Hn:=@Yh (false=r) (by rw[<-HR.o];symm;rw[Y1];intro e;injection e;contradiction);rw[Ya c2]at A0;clear c2;go_enter Tryz.func51,Tryz.ntmps51;go_wp2_with fail;go_ret;exact⟨Z0 Hn.o,((Y8 _ _).alloc (Yk _) _).alloc (by simp) _⟩
 subst c2;rw[Yb rfl]at A0
 by_cases c3:n=m
 case neg =>
  have Hn:=@Yh (false=r) (by rw[<-HR.o];symm;rw[Y1];intro e;injection e;contradiction);have hq:(n != m)=true:=by rw[YJ];exact c3
  clear c3;go_enter Tryz.func51,Tryz.ntmps51;go_wp2_with fail;go_ret;exact⟨Z0 Hn.o,((Y8 _ _).alloc (Yk _) _).alloc (by simp) _⟩
 subst c3;obtain⟨p,hp⟩:=Yn (ws.length);obtain⟨p2,hp2⟩:=Yn (vs.length);obtain⟨q,hq⟩:=Yn (ks.length);obtain⟨q2,hq2⟩:=Yn (ls.length);have HP:=Yh hp;have A1:=Yh hp2;have HQ:=Yh hq;have A2:=Yh hq2;rw[hp]at l1 ⊢;rw[hp2]at l3 ⊢;rw[hq]at l2 ⊢;rw[hq2]at l4 ⊢;clear hp hp2 hq hq2
 by_cases c4:p=p2
 case neg =>
  have Hn:=@Yh (false=r) (by rw[<-HR.o];symm;rw[Y1];intro e;injection e with _ _ _ e _;exact c4 (by rw[<-HP.o,<-A1.o,e]));have hq:((p:Int)==(p2:Int))=false:=by rw[Yc];omega
  go_enter Tryz.func51,Tryz.ntmps51;go_wp2_with fail;go_ret;exact⟨Z0 Hn.o,((Y8 _ _).alloc (Yk _) _).alloc (by simp) _⟩
 subst c4
 by_cases c5:q=q2
 case neg =>
  have Hn:=@Yh (false=r) (by rw[<-HR.o];symm;rw[Y1];intro e;injection e with _ _ _ _ e;exact c5 (by rw[<-HQ.o,<-A2.o,e]));have hq:((q:Int)==(q2:Int))=false:=by rw[Yc];omega
  go_enter Tryz.func51,Tryz.ntmps51;go_wp2_with fail;go_ret;exact⟨Z0 Hn.o,((Y8 _ _).alloc (Yk _) _).alloc (by simp) _⟩
 subst c5;obtain⟨w1,h1⟩:=Yn (w.alloc (.cells #[.int .i64 a,.string s,.int .i64 n,.slice xw p xwc,.slice xk q xkc] 50));obtain⟨w2,h2⟩:=Yn (w1.alloc (.cells #[.int .i64 a,.string s,.int .i64 n,.slice yw p ywc,.slice yk q ykc] 50));obtain⟨k1,q1,z1⟩:=Za h1;obtain⟨k2,q22,z2⟩:=Za h2;have BW:=Yh (q1.trans (q22.mono q1.size));have K1:=Yh (k1.below q22);have K2:=Yh k2;obtain⟨x0,x1,x2,x3,x4⟩:=cell5 K1.o;obtain⟨y0,y1,y2,y3,y4⟩:=cell5 K2.o;clear k1 k2 q1 q22 z1 z2;go_enter Tryz.func51,Tryz.ntmps51;go_wp2_with fail;clear x0 x1 x2 x3 x4 y0 y1 y2 y3 y4 A0;go_loopw [47] (fun i wr=>∃k:Nat,k<=p/\i=.int .i64 k/\Hi (∀j,j<k->ws.getD j ⟨#[]⟩=vs.getD j ⟨#[]⟩)/\Hi (Below w2.heap.size w2 wr)) (fun i _=>p-(intOf i).toNat)
 case atStart=>exact⟨0,Yl _,rfl,Yh (fun j hj=>absurd hj (Yr _)),Yh (Y8 _ _)⟩
 case round =>
  obtain⟨k,hk,rfl,Hall,HB⟩:=hrel;obtain⟨-,-,-,x3,x4⟩:=cell5 (K1.o.below HB.o);obtain⟨-,-,-,y3,y4⟩:=cell5 (K2.o.below HB.o);have BB:=YT BW HB.o
  by_cases hkl:k<p
  ·obtain⟨xb,xo,rfl,hxb,hxc⟩:=(HX.o.below BB.o).words.cells (by show 0<ws.length;rw[HP.o];omega)
   obtain⟨yb,yo,rfl,hyb,hyc⟩:=(HY.o.below BB.o).words.cells (by show 0<vs.length;rw[A1.o];omega);have cx:wr.cell? ⟨xb,xo+k,none⟩=some (.string (ws.getD k ⟨#[]⟩)):=hxc k (by show k<ws.length;rw[HP.o];exact hkl);have cy:wr.cell? ⟨yb,yo+k,none⟩=some (.string (vs.getD k ⟨#[]⟩)):=hyc k (by show k<vs.length;rw[A1.o];exact hkl);obtain⟨u,hu⟩:=Yn (ws.getD k ⟨#[]⟩);obtain⟨v,hv⟩:=Yn (vs.getD k ⟨#[]⟩);have HU:=Yh (YH hu hv);rw[hu]at cx;rw[hv]at cy;have A0:=Zk u v;clear hu hv hxb hyb hxc hyc x4 y4
   by_cases he:u=v
   ·rw[Yb he]at A0
    have Hx:=Yh (show ∀j,j<k+1->ws.getD j ⟨#[]⟩=vs.getD j ⟨#[]⟩from fun j hj=>by
     rcases Ym (Ys hj)with h3|h3
     ·exact Hall.o j h3
     ·subst h3;rw[HU.o.1,HU.o.2];exact he)
    clear he;go_wp2_with fail;go_quiet (fail)
    rename_i nq
    have BD:=Yh (below_drewN HB.o nq);clear x3 y3 cx cy;go_wp2_with fail;go_roundw
    case rel=>exact⟨k+1,by omega,by go_num,Hx,BD⟩
    case measure=>simp[intOf];omega
   ·rw[Ya he]at A0
    have Hn:=Yh (show false=r by
     rw[<-HR.o];symm;rw[Y1];intro e
     injection e with _ _ _ e _
     exact he (by rw[<-HU.o.1,<-HU.o.2,e]))
    clear he;go_wp2_with fail;go_quiet (fail)
    rename_i nq
    have BD:=Yh (below_drewN HB.o nq);clear x3 y3 cx cy;go_wp2_with fail;go_ret;exact⟨Z0 Hn.o,YU BW BD.o⟩
  ·obtain rfl:k=p:=by omega
   have HW:=@Yh (ws=vs) (ZK1 (HP.o.trans A1.o.symm) (fun j hj=>Hall.o j (by rw[HP.o]at hj;exact hj)));clear hkl x3 y3;go_wp2_with fail;clear x4 y4;go_loopw [65] (fun i wr=>∃g:Nat,g<=q/\i=.int .i64 g/\Hi (∀j,j<g->ks.getD j 0=ls.getD j 0)/\Hi (Below w2.heap.size w2 wr)) (fun i _=>q-(intOf i).toNat)
   case atStart=>exact⟨0,Yl _,rfl,Yh (fun j hj=>absurd hj (Yr _)),HB⟩
   case round =>
    clear HB Hall;obtain⟨g,hg,rfl,Hall,HB⟩:=hrel;obtain⟨-,-,-,-,x4⟩:=cell5 (K1.o.below HB.o);obtain⟨-,-,-,-,y4⟩:=cell5 (K2.o.below HB.o);have BB:=YT BW HB.o
    by_cases hgl:g<q
    ·obtain⟨xb,xo,rfl,hxb,hxc⟩:=(HX.o.below BB.o).kids.cells (by show 0<ks.length;rw[HQ.o];omega)
     obtain⟨yb,yo,rfl,hyb,hyc⟩:=(HY.o.below BB.o).kids.cells (by show 0<ls.length;rw[A2.o];omega);have cx:wr.cell? ⟨xb,xo+g,none⟩=some (.int .i64 (ks.getD g 0)):=hxc g (by show g<ks.length;rw[HQ.o];exact hgl);have cy:wr.cell? ⟨yb,yo+g,none⟩=some (.int .i64 (ls.getD g 0)):=hyc g (by show g<ls.length;rw[A2.o];exact hgl);obtain⟨u,hu⟩:=Yn (ks.getD g 0);obtain⟨v,hv⟩:=Yn (ls.getD g 0);have HU:=Yh (YH hu hv);rw[hu]at cx;rw[hv]at cy;clear hu hv hxb hyb hxc hyc;go_wp2_with fail;go_quiet (fail)
     rename_i nq
     have BD:=Yh (below_drewN HB.o nq);clear x4 y4 cx cy
     by_cases he:u=v
     ·have Hx:=Yh (show ∀j,j<g+1->ks.getD j 0=ls.getD j 0 from fun j hj=>by
       rcases Ym (Ys hj)with h3|h3
       ·exact Hall.o j h3
       ·subst h3;rw[HU.o.1,HU.o.2];exact he)
      have A3:(u != v)=false:=by rw[bne_eq_false_iff_eq];exact he
      clear he;go_wp2_with fail;go_roundw
      case rel=>exact⟨g+1,by omega,by go_num,Hx,BD⟩
      case measure=>simp[intOf];omega
     ·have Hn:=Yh (show false=r by
       rw[<-HR.o];symm;rw[Y1];intro e
       injection e with _ _ _ _ e
       exact he (by rw[<-HU.o.1,<-HU.o.2,e]))
      have A3:(u != v)=true:=by rw[YJ];exact he
      clear he;go_wp2_with fail;go_ret;exact⟨Z0 Hn.o,YU BW BD.o⟩
    ·obtain rfl:g=q:=by omega
     have Hn:=Yh (show true=r by
      have A4:ks=ls:=ZK1 (HQ.o.trans A2.o.symm) (fun j hj=>Hall.o j (by rw[HQ.o]at hj;exact hj));rw[<-HR.o,HW.o,A4];exact(Yb rfl).symm)
     clear hgl x4 y4;go_wp2_with fail;go_ret;exact⟨Z0 Hn.o,BB.o⟩
theorem ZF1{a b:ByteArray}(h:a=b):Ending.returned (.string a)=.returned (.string b):=by rw[h]
theorem Zr6(s:ByteArray)(w:World)(hs:s.size<=9223372036854775807) :
  Calls Tryz.prog 91 #[.string s] w fun e w'=>e=.returned (.string (fieldT s))/\w=w':=by
 by_cases h0:s.size=0
 ·have HR:=@Yh (s=fieldT s) (by unfold fieldT;rw[if_neg (by omega)])
  go_enter Tryz.func91,Tryz.ntmps91;go_wp2_with fail;go_ret;exact⟨ZF1 HR.o,rfl⟩
 ·have hk:0<s.size:=by omega
  have hb:=Zm hk
  by_cases h1:byteAt s 0=43
  ·have HR:=@Yh (s.extract 1 s.size=fieldT s) (by unfold fieldT;rw[if_pos ⟨hk,h1⟩])
   have h2:(s[0].toNat:Int)=43:=by rw[<-hb];exact h1
   clear h1 hb h0;go_enter Tryz.func91,Tryz.ntmps91;go_wp2_with fail;go_ret;exact⟨ZF1 HR.o,rfl⟩
  ·have HR:=@Yh (s=fieldT s) (by unfold fieldT;rw[if_neg (by omega)])
   have h2:¬(s[0].toNat:Int)=43:=by rw[<-hb];exact h1
   clear h1 hb h0;go_enter Tryz.func91,Tryz.ntmps91;go_wp2_with fail;go_ret;exact⟨ZF1 HR.o,rfl⟩
theorem ZC2(s:ByteArray)(w:World) :
  Calls Tryz.prog 92 #[.string s] w fun e w'=>e=.returned (.bool (markB s))/\w=w':=by
 unfold markB
 by_cases h1:s.toList=[61]
 ·have HR:=@Yh (true=(s.toList==[61]||s.toList==[126])) (by rw[h1];rfl)
  go_enter Tryz.func92,Tryz.ntmps92;go_wp2_with fail;go_ret;exact⟨Z0 HR.o,rfl⟩
 ·have A0:(s.toList==[61])=false:=by rw[Yc];exact h1
  have HR:=@Yh ((s.toList==[126])=(s.toList==[61]||s.toList==[126])) (by rw[A0,Bool.false_or]);go_enter Tryz.func92,Tryz.ntmps92;go_wp2_with fail;go_ret;exact⟨Z0 HR.o,rfl⟩
def NoDot(s:ByteArray)(k:Nat):Prop:=∀j,j<k->byteAt s j≠46
theorem Zl4{s:ByteArray}(h:NoDot s s.size):dotAt s=none:=by
 unfold dotAt;rw[List.find?_eq_none];intro x hx;rw[List.mem_range]at hx
 simpa using h x hx
theorem Zt4{s:ByteArray}{k:Nat}(hk:k<s.size)(h:NoDot s k)(hb:byteAt s k=46):dotAt s=some k:=by
 unfold dotAt;rw[List.find?_range_eq_some];refine⟨by simpa using hb,List.mem_range.2 hk,fun j hj=>?_⟩
 simpa using h j hj
theorem Z2b(s:ByteArray)(w:World)(hs:s.size<=1000) :
  Calls Tryz.prog 75 #[.string s] w fun e w'=>e=.returned (.bool (namedB s))/\w=w':=by
 go_enter Tryz.func75,Tryz.ntmps75;go_wp2_with fail;go_loopw [3] (fun i wr=>∃k:Nat,k<=s.size/\i=.int .i64 k/\Hi (NoDot s k)/\wr=w) (fun i _=>s.size-(intOf i).toNat)
 case atStart=>exact⟨0,Yl _,rfl,Yh (fun j hj=>absurd hj (Yr _)),rfl⟩
 case round =>
  obtain⟨k,hk,rfl,Hno,rfl⟩:=hrel
  by_cases hkl:k<s.size
  ·have hb:=Zm hkl
   by_cases hq:byteAt s k=46
   ·have h2:(s[k].toNat:Int)=46:=by rw[<-hb];exact hq
    have H1:=Yh (ZO (s.extract 0 k) wr (by rw[ByteArray.size_extract];omega));have H2:=Yh (ZO (s.extract (k+1) s.size) wr (by rw[ByteArray.size_extract];omega));have HR:=@Yh ((nameB (s.extract 0 k)&&nameB (s.extract (k+1) s.size))=namedB s) (by unfold namedB;rw[Zt4 hkl Hno.o hq]);clear hq hb
    cases h3:nameB (s.extract 0 k)<;>rw[h3]at H1 HR<;>clear h3
    ·rw[Bool.false_and]at HR
     go_wp2_with fail;refine H1.o.mono ?_;rintro e w' ⟨rfl,rfl⟩;go_wp2_with fail;go_ret;exact⟨Z0 HR.o,rfl⟩
    ·rw[Bool.true_and]at HR
     go_wp2_with fail;refine H1.o.mono ?_;rintro e w' ⟨rfl,rfl⟩;go_wp2_with fail;refine H2.o.mono ?_;rintro e w' ⟨rfl,rfl⟩;go_wp2_with fail;go_ret;exact⟨Z0 HR.o,rfl⟩
   ·have h2:¬(s[k].toNat:Int)=46:=by rw[<-hb];exact hq
    have A0:=Yh (show NoDot s (k+1)from fun j hj=>by
     rcases Ym (Ys hj)with h1|h1
     ·exact Hno.o j h1
     ·rw[h1];exact hq)
    clear hq hb;go_wp2_with fail;go_roundw
    case rel=>exact⟨k+1,by omega,by go_num,A0,by first|rfl|trivial⟩
    case measure=>simp[intOf];omega
  ·obtain rfl:k=s.size:=by omega
   have HR:=@Yh (false=namedB s) (by unfold namedB;rw[Zl4 Hno.o]);go_wp2_with fail;go_ret;exact⟨Z0 HR.o,rfl⟩
def clashB(x w:ByteArray):Bool:=(fieldT x).toList==(fieldT w).toList&&!blankB (fieldT w)
theorem ZX2(ws:List ByteArray)(i:Nat)(w:ByteArray):fieldB ws i w=(nameB (fieldT w)&&(ws.take i).all (fun x=>!clashB x w)):=rfl
theorem Z74{ws:List ByteArray}{i:Nat}{w:ByteArray}(h:nameB (fieldT w)=false):fieldB ws i w=false:=by
 rw[ZX2,h];rfl
theorem Zu3{ws:List ByteArray}{i j:Nat}{w:ByteArray}(hj:j<i)(hi:i<=ws.length)(h:clashB (ws.getD j ⟨#[]⟩) w=true):fieldB ws i w=false:=by
 rw[ZX2,Bool.and_eq_false_iff]
 right
 rw[Bool.eq_false_iff];intro ha;rw[List.all_eq_true]at ha
 have hm:ws.getD j ⟨#[]⟩∈ws.take i:=by
  rw[Z3 (by omega)];rw[List.mem_take_iff_getElem];exact⟨j,by omega,rfl⟩
 have:=ha _ hm;rw[h]at this
 cases this
theorem Zz2{ws:List ByteArray}{i:Nat}{w:ByteArray}(hn:nameB (fieldT w)=true)(hi:i<=ws.length)(h:∀j,j<i->clashB (ws.getD j ⟨#[]⟩) w=false):fieldB ws i w=true:=by
 rw[ZX2,hn,Bool.true_and,List.all_eq_true];intro x hx;rw[List.mem_take_iff_getElem]at hx;obtain⟨j,hj,rfl⟩:=hx;have:=h j (by omega);rw[Z3 (by omega)]at this;rw[this];rfl
theorem ZM2{ws:List ByteArray}{k:Nat}(hk:k<ws.length)(h:fieldB ws k (ws.getD k ⟨#[]⟩)=false):fieldsB ws=false:=by
 unfold fieldsB;rw[Bool.eq_false_iff];intro ha;rw[List.all_eq_true]at ha;have:=ha k (List.mem_range.2 hk);rw[h]at this
 cases this
theorem Z64{ws:List ByteArray}(h:∀k,k<ws.length->fieldB ws k (ws.getD k ⟨#[]⟩)=true):fieldsB ws=true:=by
 unfold fieldsB;rw[List.all_eq_true];intro k hk;exact h k (List.mem_range.1 hk)
theorem Zg5{s:ByteArray}:(fieldT s).size<=s.size:=by
 unfold fieldT
 split
 ·rw[ByteArray.size_extract];omega
 ·exact Yk _
set_option maxRecDepth 100000 in
theorem Z3a(t:Ty)(wo ko:Option Addr)(wc kc:Nat)(w:World)(ht:TyC w wo ko t)(hwc:t.words.length<=wc) :
  Calls Tryz.prog 73 #[tyV t wo wc ko kc] w fun e w'=>e=.returned (.bool (fieldsB t.words&&decide (t.words.length=t.kids.length)))/\Below w.heap.size w w':=by
 obtain⟨r,hr⟩:∃r,(fieldsB t.words&&decide (t.words.length=t.kids.length))=r:=⟨_,rfl⟩
 rw[hr];have HR:=Yh hr;clear hr;unfold tyV;obtain⟨n,hn⟩:=Yn (t.words.length);obtain⟨m,hm⟩:=Yn (t.kids.length);have HN:=Yh hn;have HM:=Yh hm;have l1:=ht.ok.wl;have l2:=ht.ok.kl;rw[hn]at l1 hwc ⊢;rw[hm]at l2 ⊢;have HT:=Yh ht;clear hn hm ht;obtain⟨w1,h1,k1,q1,z1⟩:=YA w #[.int .i64 t.kind,.string t.name,.int .i64 t.n,.slice wo n wc,.slice ko m kc] 50;have BW:=Yh q1;obtain⟨x0,x1,x2,x3,x4⟩:=cell5 k1;have X3:=Yh x3;have X4:=Yh x4;clear k1 q1 z1;go_enter Tryz.func73,Tryz.ntmps73;go_wp2_with fail;clear h1 x0 x1 x2 x3 x4;go_loopw [10] (fun i wr=>∃k:Nat,k<=n/\i=.int .i64 k/\Hi (∀j,j<k->fieldB t.words j (t.words.getD j ⟨#[]⟩)=true)/\wr=w1) (fun i _=>n-(intOf i).toNat)
 case atStart=>exact⟨0,Yl _,rfl,Yh (fun j hj=>absurd hj (Yr _)),by first|rfl|trivial⟩
 case round =>
  obtain⟨k,hk,rfl,Hall,rfl⟩:=hrel
  by_cases hkl:k<n
  ·obtain⟨b,o,rfl,hb,hc⟩:=(HT.o.below BW.o).words.cells (by rw[HN.o];omega)
   have HC:=Yh hc;have cx:=hc k (by rw[HN.o];exact hkl);have A4:=HT.o.ok.ws _ (ZG0 (show k<t.words.length by rw[HN.o];exact hkl));obtain⟨u,hu⟩:=Yn (t.words.getD k ⟨#[]⟩);have HU:=Yh hu;rw[hu]at cx A4;have HF:=Yh (Zr6 u wr (by omega));have A5:=Zg5 (s:=u);obtain⟨f,hf⟩:=Yn (fieldT u);have A1:=Yh hf;rw[hf]at HF A5;have A2:=Yh (ZO f wr (by omega));clear hu hc hb hf
   cases h3:nameB f<;>rw[h3]at A2<;>have H3:=Yh h3<;>clear h3
   ·have Hn:=Yh (show false=r by
     rw[<-HR.o,ZM2 (k:=k) (by rw[HN.o];exact hkl) (by rw[HU.o];exact Z74 (by rw[A1.o];exact H3.o))];rfl)
    go_wp2_with fail;refine HF.o.mono ?_;rintro e w' ⟨rfl,rfl⟩;go_wp2_with fail;refine A2.o.mono ?_;rintro e w' ⟨rfl,rfl⟩;go_wp2_with fail;go_ret;exact⟨Z0 Hn.o,BW.o⟩
   ·have x3:=X3.o
    go_wp2_with fail;refine HF.o.mono ?_;rintro e w' ⟨rfl,rfl⟩;go_wp2_with fail;refine A2.o.mono ?_;rintro e w' ⟨rfl,rfl⟩;go_wp2_with fail;clear x3 cx;go_loopw [24] (fun i wr2=>∃j:Nat,j<=k/\i=.int .i64 j/\Hi (∀h,h<j->clashB (t.words.getD h ⟨#[]⟩) u=false)/\wr2=wr) (fun i _=>k-(intOf i).toNat)
    case atStart=>exact⟨0,Yl _,rfl,Yh (fun j hj=>absurd hj (Yr _)),by first|rfl|trivial⟩
    case round =>
     obtain⟨j,hj,rfl,Hno,rfl⟩:=hrel
     by_cases hjl:j<k
     ·have cy:=HC.o j (by rw[HN.o];omega)
      have A6:=HT.o.ok.ws _ (ZG0 (show j<t.words.length by rw[HN.o];omega));obtain⟨v,hv⟩:=Yn (t.words.getD j ⟨#[]⟩);have HV:=Yh hv;rw[hv]at cy A6;have HG:=Yh (Zr6 v wr (by omega));obtain⟨g,hg⟩:=Yn (fieldT v);have A7:=Yh hg;rw[hg]at HG;clear hv hg;have A3:=@Yh (clashB v u=(g.toList==f.toList&&!blankB f)) (by unfold clashB;rw[A7.o,A1.o])
      by_cases he:g.toList=f.toList
      ·have hq:(g.toList==f.toList)=true:=by rw[YK];exact he
       by_cases hbl:f.toList=[95]
       ·have Hx:=Yh (show ∀h,h<j+1->clashB (t.words.getD h ⟨#[]⟩) u=false from fun h hh=>by
         rcases Ym (Ys hh)with h1|h1
         ·exact Hno.o h h1
         ·rw[h1,HV.o,A3.o,hq];unfold blankB;rw[hbl];rfl)
        have A8:(f.toList==[95])=true:=by rw[YK];exact hbl
        clear hbl he;go_wp2_with fail;refine HG.o.mono ?_;rintro e w' ⟨rfl,rfl⟩;go_wp2_with fail;refine HF.o.mono ?_;rintro e w' ⟨rfl,rfl⟩;go_wp2_with fail;refine HF.o.mono ?_;rintro e w' ⟨rfl,rfl⟩;go_wp2_with fail;go_roundw
        case rel=>exact⟨j+1,by omega,by go_num,Hx,by first|rfl|trivial⟩
        case measure=>simp[intOf];omega
       ·have Hn:=Yh (show false=r by
         rw[<-HR.o,ZM2 (k:=k) (by rw[HN.o];exact hkl) (by
          rw[HU.o];refine Zu3 hjl (by rw[HN.o];omega) ?_;rw[HV.o,A3.o,hq];unfold blankB;rw[show(f.toList==[95])=false by rw[Yc];exact hbl]
          rfl)]
         rfl)
        have A8:(f.toList==[95])=false:=by rw[Yc];exact hbl
        clear hbl he;go_wp2_with fail;refine HG.o.mono ?_;rintro e w' ⟨rfl,rfl⟩;go_wp2_with fail;refine HF.o.mono ?_;rintro e w' ⟨rfl,rfl⟩;go_wp2_with fail;refine HF.o.mono ?_;rintro e w' ⟨rfl,rfl⟩;go_wp2_with fail;go_ret;exact⟨Z0 Hn.o,BW.o⟩
      ·have hq:(g.toList==f.toList)=false:=by rw[Yc];exact he
       have Hx:=Yh (show ∀h,h<j+1->clashB (t.words.getD h ⟨#[]⟩) u=false from fun h hh=>by
        rcases Ym (Ys hh)with h1|h1
        ·exact Hno.o h h1
        ·rw[h1,HV.o,A3.o,hq];rfl)
       go_wp2_with fail;refine HG.o.mono ?_;rintro e w' ⟨rfl,rfl⟩;go_wp2_with fail;refine HF.o.mono ?_;rintro e w' ⟨rfl,rfl⟩;go_wp2_with fail;go_roundw
       case rel=>exact⟨j+1,by omega,by go_num,Hx,by first|rfl|trivial⟩
       case measure=>simp[intOf];omega
     ·obtain rfl:j=k:=by omega
      have A0:=Yh (show ∀h,h<j+1->fieldB t.words h (t.words.getD h ⟨#[]⟩)=true from fun h hh=>by
       rcases Ym (Ys hh)with h1|h1
       ·exact Hall.o h h1
       ·subst h1
        rw[HU.o];exact Zz2 (by rw[A1.o];exact H3.o) (by rw[HN.o];omega) Hno.o)
      go_wp2_with fail;go_roundw
      case rel=>exact⟨j+1,by omega,by go_num,A0,by first|rfl|trivial⟩
      case measure=>simp[intOf];omega
  ·obtain rfl:k=n:=by omega
   have HF:=@Yh (fieldsB t.words=true) (Z64 (fun j hj=>Hall.o j (by rw[HN.o]at hj;exact hj)));have x3:=X3.o;have x4:=X4.o
   by_cases hnm:k=m
   ·have Hn:=@Yh (true=r) (by rw[<-HR.o,HF.o,Bool.true_and,HN.o,HM.o,Yb hnm])
    have hq:((k:Int)==(m:Int))=true:=by rw[YK];omega
    go_wp2_with fail;go_ret;exact⟨Z0 Hn.o,BW.o⟩
   ·have Hn:=@Yh (false=r) (by rw[<-HR.o,HF.o,Bool.true_and,HN.o,HM.o,Ya hnm])
    have hq:((k:Int)==(m:Int))=false:=by rw[Yc];omega
    go_wp2_with fail;go_ret;exact⟨Z0 Hn.o,BW.o⟩
end Go.Proofs.YtdcajkagakikiaaGreatDoor
