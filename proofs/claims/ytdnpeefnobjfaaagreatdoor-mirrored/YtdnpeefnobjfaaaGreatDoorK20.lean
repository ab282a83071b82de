import Derived.Ground.SlsfProg
import Derived.LoopIn
import Derived.LoopNIn
import Derived.OwnWalkIn
import Derived.RangeFuncBound
import Derived.RangeFuncCalls
import Derived.RangeFuncLeaves
import Derived.RangeFuncNested
import Derived.Shelf.Abstract
import Derived.Shelf.RegionOpen
import Derived.Shelf.SlSortCmp.WholeK
import Derived.TacticsInMore
import Derived.Test.YtdnpeefnobjfaaaGreatDoorK15
set_option maxRecDepth 100000
set_option maxHeartbeats 4000000
set_option linter.all false
section
namespace Go.Proofs.q
section
universe u
open Go.RowKit Go.Shelf
attribute [local go_sem] Oper.semAt_some
structure Rw where
 addr:Int
 len:Int
 tag:Int
 met:Int
 az:Int
 bM:Int
 ci:Bool
deriving DecidableEq,Inhabited
def cQ(r:Rw):List af:=[.int .u32 r.addr,.int .i64 r.len,.int .i64 r.tag,.int .i64 r.met,.int .i64 r.az,.int .i64 r.bM,.bool r.ci]
def jW(w:aa)(b a:Nat)(L:List Rw):Prop:=∀k,(h:k<L.length)->w.cell? ⟨b,a+k*7,none⟩=some (.int .u32 L[k].addr)/\w.cell? ⟨b,a+k*7+1,none⟩=some (.int .i64 L[k].len)/\w.cell? ⟨b,a+k*7+2,none⟩=some (.int .i64 L[k].tag)/\w.cell? ⟨b,a+k*7+3,none⟩=some (.int .i64 L[k].met)/\w.cell? ⟨b,a+k*7+4,none⟩=some (.int .i64 L[k].az)/\w.cell? ⟨b,a+k*7+5,none⟩=some (.int .i64 L[k].bM)/\w.cell? ⟨b,a+k*7+6,none⟩=some (.bool L[k].ci)
def qy{w e:aa}{b d B:Nat}{L:List Rw}(h:jW w b d L)(a:Below B w e)(c:b<B):jW e b d L:=λk f=>by obtain⟨h0,g,i,j,l,m,n⟩:=h k f;exact⟨(a.cell (p:=⟨b,_,none⟩) c).trans h0,(a.cell (p:=⟨b,_,none⟩) c).trans g,(a.cell (p:=⟨b,_,none⟩) c).trans i,(a.cell (p:=⟨b,_,none⟩) c).trans j,(a.cell (p:=⟨b,_,none⟩) c).trans l,(a.cell (p:=⟨b,_,none⟩) c).trans m,(a.cell (p:=⟨b,_,none⟩) c).trans n⟩
def qz{w:aa}{b a:Nat}{L:List Rw}(h:jW w b a L)(h0:0<L.length):b<w.heap.size:=World.block_lt_of_cell? w _ (h 0 h0).1
def fP(w:aa)(ao:Option ap)(L:List Rw):Prop:=L=[]\/∃b a,ao=some ⟨b,a,none⟩/\jW w b a L
def jx{w c:aa}{ao:Option ap}{L:List Rw}(h:fP w ao L)(e:Below w.heap.size w c):fP c ao L:=by
 obtain h|⟨b,a,f,d⟩:=h
 .exact .inl h
 .by_cases h0:0<L.length
  .exact .inr ⟨b,a,f,qy d e (qz d h0)⟩
  .exact .inl (fq (by omega))
abbrev fK:={r:Rw // 0<=r.len/\r.len<=32}
instance : Inhabited fK := ⟨⟨default, by decide⟩⟩
def js(L:List fK):List Rw:=L.map (·.1)
def ti(L:List fK):(js L).length=L.length:=by simp[js]
def wE(L:List Rw)(h:∀r∈L,0<=r.len/\r.len<=32):List fK:=L.pmap (λr h=>⟨r,h⟩) h
def YK(L:List Rw)(h:∀r∈L,0<=r.len/\r.len<=32):js (wE L h)=L:=by unfold js wE;rw[List.map_pmap];simp
def pB(L:List fK)(k:Nat):Int×fK:=((L.length:Int) - 1 - (k:Int),L[L.length - 1 - k]?.getD default)
def gA(L:List fK)(k:Nat):List (Int×fK):=(List.range k).map (pB L)
def Mh(L:List fK)(k:Nat):gA L (k+1)=gA L k++[pB L k]:=by simp[gA,a6w]
def Mg(L:List fK)(k:Nat):(gA L k).length=k:=by simp[gA]
def Cp(L:List fK)(k:Nat)(b:k<=L.length):(gA L k).map (·.2)=L.reverse.take k:=by
 apply a7F
 .simp[gA];omega
 .intro i a c;have d:i<k:=by simpa[gA]using a
  simp only[gA,a7l,a7G,a7x,Function.comp_apply,pB,a7d,List.getElem_reverse];rw[lF (by omega)];rfl
def xi(x:Int×fK):Array af:=#[.int .i64 x.1,.agg #[.int .u32 x.2.1.addr,.int .i64 x.2.1.len,.int .i64 x.2.1.tag,.int .i64 x.2.1.met,.int .i64 x.2.1.az,.int .i64 x.2.1.bM,.bool x.2.1.ci]]
def Mo(F:Fence)(n:Nat)(R:F.fn 152)(t:F.round=none)(hn:1<=n)(l j s b f len cap:Nat)(L:List fK)(D:L.length=len)(H:len<=1000000)(S:b<s)(o:j<s)(J I:List (Int×fK)->aa->Prop)(T:∀a x W,J a W->a.length<len->YieldAt F (n - 1) Gh.prog.{u} l (xi x) W λe h=>(e=.returned (.bool true)/\J (a++[x]) h/\Below s W h)\/(e=.returned (.bool false)/\I (a++[x]) h))(W:aa)(w:W.cell? ⟨j,0,none⟩=some (.slice (some ⟨b,f,none⟩) len cap))(K:jW W b f (js L))(h0:J [] W):CallsIn F n Gh.prog.{u} 152 #[.func (.yield l) #[] #[],.pointer (some ⟨j,0,none⟩)] W λe h=>(∃v,e=.returned v)/\((∃M,M=gA L len/\J M h)\/(∃a,(∃k,k<=len/\a=gA L k)/\I a h)):=by
 refine callsIn_of_wp Gh.func152 rfl R ?_ t;simp only[Tryz.ntmps152,fS,gu,gv,Nat.reduceAdd,Nat.reduceSub,j9,ka,kg,ke,gP,fy];have N:=am D;have U:=am K;clear D K
 gi_wp2
 gi_loopw [3] (λi wr=> ∃m:Nat,m<=len/\i=.int .i64 ((m:Int) - 1)/\J (gA L (len - m)) wr/\Below s W wr)
  (λi _=>(intOf i+1).toNat)
 case atStart=>exact⟨len,aF _,rfl,by rw[Nat.sub_self];exact h0,Below.refl _ _⟩
 case round=>
  obtain⟨m,hk,rfl,q,g⟩:=hrel;have V:wr.cell? ⟨j,0,none⟩=some (.slice (some ⟨b,f,none⟩) len cap):=(g.cell (p:=⟨j,0,none⟩) o).trans w;cases m with
  |succ m=>
   obtain⟨fn,O,assign,body,P,y⟩:=T _ (pB L (len - (m+1))) wr q (by rw[Mg];omega);have z:m<L.length:=by rw[ai N];omega
   obtain⟨X,c1,c2,Y,Z,c5,c6⟩:=qy (ai U) g S m (by rw[ti];exact z);have d:(js L)[m]'(by rw[ti];exact z)=L[m].1:=by simp[js]
   rw[d]at X c1 c2 Y Z c5 c6;clear d;have A:pB L (len - (m+1))=((m:Int),L[m]):=by simp only[pB,ai N];rw[show len - 1 - (len - (m+1))=m by omega,lF z,show(len:Int) - 1 - ((len - (m+1):Nat):Int)=m by omega];rfl
   have c:gA L (len - (m+1))++[((m:Int),L[m])]=gA L (len - m):=by rw[<-A,<-Mh,show len - (m+1)+1=len - m by omega]
   rw[A]at P y;simp only[xi]at P;rw[c]at y;clear A c;generalize L[m]=E at*;have Q:(((m+1:Nat):Int) - 1)=(m:Int):=by omega
   have ab:(0:Int)<=(m:Int):=by omega
   have ad:(m:Int)<(len:Int):=by omega
   rw[Q];clear Q
   gi_wp2
   refine y.mono ?_;rintro e W3 (⟨rfl,B,C⟩|⟨rfl,r⟩)
   .gi_wp2
    go_roundw
    case rel=>exact⟨m,by omega,by go_num,B,g.trans C⟩
    case measure=>simp[intOf]
   .gi_wp2
    refine bodyPost_ret (results_none rfl _ _ _) rfl ?_;exact⟨⟨_,rfl⟩,.inr ⟨_,⟨len - m,by omega,rfl⟩,r⟩⟩
  |zero=>
   gi_wp2
   go_end0;exact⟨⟨_,rfl⟩,.inl ⟨_,rfl,q⟩⟩
def Mp(F:Fence)(n:Nat)(d:F.fn 152)(a:F.round=none)(l c cap:Nat)(ao:Option ap)(J:List (Int×fK)->aa->Prop)(W:aa)(f:W.cell? ⟨c,0,none⟩=some (.slice ao 0 cap))(h0:J [] W):CallsIn F n Gh.prog.{u} 152 #[.func (.yield l) #[] #[],.pointer (some ⟨c,0,none⟩)] W λe W'=>(∃v,e=.returned v)/\J [] W':=by
 refine callsIn_of_wp Gh.func152 rfl d ?_ a;simp only[Tryz.ntmps152,fS,gu,gv,Nat.reduceAdd,Nat.reduceSub,j9,ka,kg,ke,gP,fy]
 gi_wp2
 gi_loopw [3] (λi wr=>i=.int .i64 (-1)/\J [] wr) (λ_ _=>0)
 case atStart=>exact⟨rfl,h0⟩
 case round=>
  obtain⟨rfl,b⟩:=hrel
  gi_wp2
  go_end0;exact⟨⟨_,rfl⟩,b⟩
def Mq(F:Fence)(n:Nat)(c:F.fn 102)(b:F.round=none)(a:Option ap)(len cap:Nat)(w:aa):CallsIn F n Gh.prog.{u} 102 #[.slice a len cap] w λe d=>e=.returned (.func (.func 152) #[] #[.pointer (some ⟨w.heap.size,0,none⟩)])/\d=w.alloc (.cells #[.slice a len cap] 118):=by
 refine callsIn_of_wp Gh.func102 rfl c ?_ b;simp only[Tryz.ntmps102,fS,gu,gv,Nat.reduceAdd,Nat.reduceSub,j9,ka,kg,ke,gP,fy]
 gi_wp2
 go_ret;exact⟨rfl,rfl⟩
def Mr(F:Fence)(n:Nat)(q:F.fn 152)(d:F.round=none)(t:1<=n)(c f cap:Nat)(ao:Option ap)(L:List fK)(g:L.length<=1000000)(w:aa)(h:c<f)(i:f<=w.heap.size)(v:w.cell? ⟨c,0,none⟩=some (.slice ao L.length cap))(hI:L=[]\/∃b a,ao=some ⟨b,a,none⟩/\b<f/\jW w b a (js L)):SeqStopsK F n Gh.prog.{u} 152 #[.pointer (some ⟨c,0,none⟩)] xi (Below f) (λx=>x=gA L L.length) (λm=> ∃k,k<=L.length/\m=gA L k) L.length w:=λl J y W r _ _ z h0=>by
 have j:=(r.cell (p:=⟨c,0,none⟩) (cG h i)).trans v;obtain rfl|⟨b,a,rfl,s,o⟩:=hI
 .exact(Mp F n q d l c cap ao J W j h0).mono λe B ⟨A,hj⟩=>⟨A,.inl ⟨_,rfl,hj⟩⟩
 .exact Mo F n q d t l c f b a L.length cap L rfl g s h J y z W j (qy o r (cG s i)) h0
end
section
universe u
open Go.RowKit Go.Shelf
attribute [local go_sem] Oper.semAt_some
def vS(r:Rw)(w):Calls Gh.prog.{u} 103 #[.agg #[.int .u32 r.addr,.int .i64 r.len,.int .i64 r.tag,.int .i64 r.met,.int .i64 r.az,.int .i64 r.bM,.bool r.ci]] w λe w'=>e=.returned (.bool (decide (r.met=16)))/\aL w w':=by go_enter Gh.func103,Tryz.ntmps103;go_wp2;go_ret;refine⟨fo ?_,(aL.refl w).alloc _⟩;rw[ma];simp
def UR(x k)(c:x<4294967296)(d:k<=32):x&&&(4294967296 - 2^k)=x - x%2^k:=by
 have e:4294967296 - 2^k=(2^(32 - k) - 1)<<<k:=by rw[Nat.shiftLeft_eq,Nat.sub_mul,<-Nat.pow_add,Nat.sub_add_cancel d];simp
 have f:x - x%2^k=(x>>>k)<<<k:=by rw[Nat.shiftLeft_eq,Nat.shiftRight_eq_div_pow];have:=Nat.div_add_mod x (2^k);rw[Nat.mul_comm]at this;omega
 rw[e,f];apply Nat.eq_of_testBit_eq;intro i;simp only[Nat.testBit_and,Nat.testBit_shiftLeft,Nat.testBit_shiftRight,a7y];by_cases a:k<=i
 .simp only[a,decide_true,a8d];rw[Nat.add_sub_cancel' a];by_cases b:i - k<32 - k
  .simp[b]
  .have:x.testBit i=false:=a7N (cG c (by rw[show(4294967296:Nat)=2^32 from rfl];exact a7q (by decide) (by omega)));simp[this]
 .simp[a]
def a5Y(a l x:Int):Bool:=decide (x - x%2^(32 - l).toNat=a)
def S6(a l x)(h0:0<=l)(c:0<=x)(b:x<4294967296):(bits BinOp.and IntKind.u32 x (4294967296 - 2^(32 - l).toNat)==a)=a5Y a l x:=by
 have g:=mP (32 - l).toNat;have e:=mO (32 - l).toNat (by omega);rw[u32_and _ _ c b (by omega) (by omega)];obtain⟨y,rfl⟩:=a6B c;have d:((2:Int)^(32 - l).toNat)=((2^(32 - l).toNat:Nat):Int):=by simp
 have f:((4294967296:Int) - 2^(32 - l).toNat).toNat=4294967296 - 2^(32 - l).toNat:=by rw[d]at e⊢;omega
 rw[f,a7c,UR y _ (by omega) (by omega),a5Y,d,ma];have h:=Nat.mod_le y (2^(32 - l).toNat);simp only[beq_iff_eq,decide_eq_true_eq];omega
def S5(a l x w)(h0:0<=l)(f:l<=32)(g:0<=x)(b:x<4294967296):Calls Gh.prog.{u} 104 #[.agg #[.int .u32 a,.int .i64 l],.int .u32 x] w λe w'=>e=.returned (.bool (a5Y a l x))/\aL w w':=by
 have h:∀W,Calls Gh.prog.{u} 127 #[.agg #[.int .u32 a,.int .i64 l]] W λe w'=>e=.returned (.int .u32 (4294967296 - 2^(32 - l).toNat))/\aL W w':=λW=>(sG a l W h0 f).mono λ_ _ ⟨i,hw⟩=>⟨i,by rw[hw];exact(aL.refl W).alloc _⟩;have j:=am (S6 a l x h0 g b);have d:=jq.{u};go_enter Gh.func104,Tryz.ntmps104;go_wp2_with fail;have k:=λn c=>cell_grown (w:=w.alloc (.cells #[.int .u32 a,.int .i64 l] 32)) (a:=⟨w.heap.size,0,none⟩) (by simp) (show _=some (.int .u32 a)by simp) n c;have m:=λn c=>cell_grown (w:=w.alloc (.cells #[.int .u32 a,.int .i64 l] 32)) (a:=⟨w.heap.size,1,none⟩) (by simp) (show _=some (.int .i64 l)by simp) n c
 go_quiet_grown (first|(go_at_call 127;refine aL.quiet (h _)))
 go_wp2;go_ret;exact⟨fo (ai j),((aL.refl w).alloc _).grow _ _⟩
def aK(W:aa)(B:Nat)(cs:Array af)(t:aA):Prop:=W.heap[B]?=some (.cells cs t (0,0))
def aK.lt{W B cs t}(h:aK W B cs t):B<W.heap.size:=(bW.1 h).1
def aK.cell{W B cs t}(h:aK W B cs t)(i):W.cell? ⟨B,i,none⟩=cs[i]? :=by unfold aK at h;simp[World.cell?,h]
def aK.frozen{W B cs t}(h:aK W B cs t)(i):W.frozen? ⟨B,i,none⟩=false:=by unfold aK at h;simp[World.frozen?,h]
def aK.new(W:aa)(cs t):aK (W.alloc (.cells cs t)) W.heap.size cs t:=World.alloc_heap_new W _
def aK.alloc{W B cs t}(h:aK W B cs t)(o):aK (W.alloc o) B cs t:=(Below.heap_alloc W o B h.lt).trans h
def aK.below{W a B n cs t}(h:aK W B cs t)(b:Below n W a)(c:B<n):aK a B cs t:=(b.block B c).trans h
def aK.dY{W a B cs t}(h:aK W B cs t)(b:aL W a):aK a B cs t:=h.below b.below h.lt
def aK.other{W B cs t}(h:aK W B cs t){p}(a:p.block≠B)(v):aK (W.setCell p v) B cs t:=(Below.heap_setCell _ _ _ _ (by simpa using λe=>a e.symm)).trans h
def aK.set{W B cs t}(h:aK W B cs t)(i v):aK (W.setCell ⟨B,i,none⟩ v) B (cs.setIfInBounds i v) t:=by unfold aK at h⊢;simp[World.setCell,j7,h]
def aL.grownBy{w w'}(h:aL w w'):w.grownBy w' none:=
 ⟨h.below.os,h.below.tape,h.below.output,h.below.size,λk a _=>h.below.block k a⟩
def aL.keeps{w w'}(h:aL w w')(B):KeepsFrom B w w':=KeepsFrom.of_grownBy h.grownBy (λj e=>by cases e)
def aK.own{β}(B)(cs:β->Array af)(t):Own (λs W=>aK W B (cs s) t):=λs X Y row a c d=>
 (c.block B a.lt (λe=>by obtain⟨o,b,f⟩:=d B e.symm;rw[a]at b;cases b;cases f)).trans a
def jh(x:Int)(r:Rw):Bool:= !(decide (r.met=16))&&a5Y r.addr r.len x
def mF(L:List Rw)(x:Int):Option Rw:=L.reverse.find? (jh x)
def nL(r:Rw):Array af:=#[.int .u32 r.addr,.int .i64 r.len,.int .i64 r.tag,.int .i64 r.met,.int .i64 r.az]
def lD:Array af:=#[.int .u32 0,.int .i64 0,.int .i64 0,.int .i64 0,.int .i64 0]
def nz:Option Rw->af
 |some r=>.tuple #[.agg (nL r),.bool true]
 |none=>.tuple #[.agg lD,.bool false]
def Q0{L x}(h:∀p∈gA L L.length,jh x p.2.1=false):mF (js L) x=none:=by
 unfold mF;rw[List.find?_eq_none];intro r a;obtain⟨q,b,rfl⟩:=eS.1 (List.mem_reverse.1 a);have:q∈(gA L L.length).map (·.2):=by rw[Cp L _ (aF _),mZ (by simp)];exact List.mem_reverse.2 b
 obtain⟨p,c,rfl⟩:=eS.1 this;simp[h p c]
def Q1{L x k}(d:k<=L.length){b a}(e:gA L k=b++[a])(h:∀p∈b,jh x p.2.1=false)(f:jh x a.2.1=true):mF (js L) x=some a.2.1:=by
 unfold mF js;have c:=congrArg (List.map (·.2)) e;rw[Cp L k d]at c;rw[<-List.map_reverse,<-a7W k L.reverse,c,nW,nW,nW,List.find?_append,List.find?_append];have g:((b.map (·.2)).map (·.1)).find? (jh x)=none:=by rw[List.find?_eq_none];intro r i;obtain⟨q,j,rfl⟩:=eS.1 i;obtain⟨p,l,rfl⟩:=eS.1 j;simp[h p l]
 rw[g];simp[f]
def Q4(ao cap L x w)(hn:L.length<=1000000)(hx:0<=x)(ab:x<4294967296)(P:fP w ao (js L)):Calls Gh.prog.{u} 50 #[.agg #[.slice ao L.length cap],.int .u32 x] w λe w'=>e=.returned (nz (mF (js L) x))/\Below w.heap.size w w':=by
 refine(callsIn_wide (n:=6)).1 ?_;refine callsIn_of_wp_marks Gh.func50 rfl trivial ?_ rfl;simp only[Tryz.ntmps50,fS,gu,gv,Nat.reduceAdd,Nat.reduceSub,j9,ka,kg,ke,gP,fy];have bd:Fence.wide.fn 102:=trivial
 gi_wp2_with (gi_at_call 102;refine(Mq Fence.wide (6 - 1) trivial rfl _ _ _ _).mono ?_;rintro e w' ⟨rfl,rfl⟩)
 have bX:=(((aK.new (w.alloc (.cells #[.slice ao L.length cap] 120)) #[.int .u32 x] 30).alloc (.cells #[.int .u32 0,.int .i64 0,.int .i64 0,.int .i64 0,.int .i64 0] 52)).alloc (.cells #[.bool false] 4)).alloc (.cells #[.slice ao L.length cap] 118);have bR:=((aK.new ((w.alloc (.cells #[.slice ao L.length cap] 120)).alloc (.cells #[.int .u32 x] 30)) #[.int .u32 0,.int .i64 0,.int .i64 0,.int .i64 0,.int .i64 0] 52).alloc (.cells #[.bool false] 4)).alloc (.cells #[.slice ao L.length cap] 118);have bB:=(aK.new (((w.alloc (.cells #[.slice ao L.length cap] 120)).alloc (.cells #[.int .u32 x] 30)).alloc (.cells #[.int .u32 0,.int .i64 0,.int .i64 0,.int .i64 0,.int .i64 0] 52)) #[.bool false] 4).alloc (.cells #[.slice ao L.length cap] 118);have bN:=aK.new ((((w.alloc (.cells #[.slice ao L.length cap] 120)).alloc (.cells #[.int .u32 x] 30)).alloc (.cells #[.int .u32 0,.int .i64 0,.int .i64 0,.int .i64 0,.int .i64 0] 52)).alloc (.cells #[.bool false] 4)) #[.slice ao L.length cap] 118;simp only[World.size_alloc]at bX bR bB bN;have C:Below w.heap.size w (((((w.alloc (.cells #[.slice ao L.length cap] 120)).alloc (.cells #[.int .u32 x] 30)).alloc (.cells #[.int .u32 0,.int .i64 0,.int .i64 0,.int .i64 0,.int .i64 0] 52)).alloc (.cells #[.bool false] 4)).alloc (.cells #[.slice ao L.length cap] 118)):=((((((aL.refl w).alloc _).alloc _).alloc _).alloc _).alloc _).below;have ad:(((((w.alloc (.cells #[.slice ao L.length cap] 120)).alloc (.cells #[.int .u32 x] 30)).alloc (.cells #[.int .u32 0,.int .i64 0,.int .i64 0,.int .i64 0,.int .i64 0] 52)).alloc (.cells #[.bool false] 4)).alloc (.cells #[.slice ao L.length cap] 118)).heap.size=w.heap.size+5:=by simp
 obtain⟨W0,Q⟩:∃W0,(((((w.alloc (.cells #[.slice ao L.length cap] 120)).alloc (.cells #[.int .u32 x] 30)).alloc (.cells #[.int .u32 0,.int .i64 0,.int .i64 0,.int .i64 0,.int .i64 0] 52)).alloc (.cells #[.bool false] 4)).alloc (.cells #[.slice ao L.length cap] 118))=W0:=⟨_,rfl⟩;rw[Q]at bX bR bB bN C ad⊢;clear Q;have ae:=jx P C;have ag:L=[]\/∃b F,ao=some ⟨b,F,none⟩/\b<W0.heap.size/\jW W0 b F (js L):=by
  obtain h|⟨b,F,ha,hc⟩:=ae
  .exact .inl (by have:=congrArg List.length h;rw[ti]at this;exact fq (by simpa using this))
  .by_cases h0:0<L.length
   .exact .inr ⟨b,F,ha,qz hc (by rw[ti];exact h0),hc⟩
   .exact .inl (fq (by omega))
 refine wpIn_rangeFunc_ownH rfl (by decide) (gf:=152) (lb:=#[.pointer (some ⟨w.heap.size+1+1+1+1,0,none⟩)]) rfl trivial (enters_of Gh.func152 (by kernel_rfl) rfl)
  (Mr Fence.wide (6 - 1) trivial rfl (by decide) (w.heap.size+1+1+1+1) W0.heap.size cap ao L hn W0 (by omega) (aF _) ((bN.cell 0).trans rfl) ag) belowK_t (belowK_b (aF _)) (Below.refl _ _) (λ_=>rfl)
  (λi W=>(∀p∈i,jh x p.2.1=false)/\Below W0.heap.size W0 W)
  (λc i W=>(c=.ret/\∃v g,i=v++[g]/\(∀p∈v,jh x p.2.1=false)/\jh x g.2.1=true/\aK W (w.heap.size+1+1) (nL g.2.1) 52/\aK W (w.heap.size+1+1+1) #[.bool true] 4)/\Below w.heap.size w W)
  ?hI ?hIx ?h0
  (λy a' W=> ∃Bx,w.heap.size+5<=Bx/\aK W Bx #[.int .u32 y.2.1.addr,.int .i64 y.2.1.len,.int .i64 y.2.1.tag,.int .i64 y.2.1.met,.int .i64 y.2.1.az,.int .i64 y.2.1.bM,.bool y.2.1.ci] 137/\a'={tmps:=#[.agg #[.slice ao L.length cap],.int .u32 x,.pointer (some ⟨w.heap.size,0,none⟩),.pointer (some ⟨w.heap.size+1,0,none⟩),.pointer (some ⟨w.heap.size+1+1,0,none⟩),.pointer (some ⟨w.heap.size+1+1+1,0,none⟩),undef,.pointer (some ⟨Bx,0,none⟩),.pointer (some ⟨w.heap.size,0,none⟩),.slice ao L.length cap,.func (.func 152) #[] #[.pointer (some ⟨w.heap.size+1+1+1+1,0,none⟩)],.int .i64 y.1,.agg #[.int .u32 y.2.1.addr,.int .i64 y.2.1.len,.int .i64 y.2.1.tag,.int .i64 y.2.1.met,.int .i64 y.2.1.az,.int .i64 y.2.1.bM,.bool y.2.1.ci],undef,undef,undef,undef,undef,undef,undef,undef,undef,undef,undef,undef,undef],defers:=[]})
  ?hAx ?assign ?body ?done ?stop
 case hI=>exact OwnFrom.and (ownFrom_pure _ (λ(i:List (Int×fK))=> ∀p∈i,jh x p.2.1=false)) (ownFrom_below (aF _) (aF _))
 case hIx=>intro c;refine OwnFrom.and (Own.from (λs X Y row P j R=>?_) _) (ownFrom_below (aF _) (by omega));obtain⟨hc,v,g,S,e2,e3,e4,e5⟩:=P;exact⟨hc,v,g,S,e2,e3,aK.own (β:=Unit) _ (λ_=>nL g.2.1) _ () X Y row e4 j R,aK.own (β:=Unit) _ (λ_=> #[.bool true]) _ () X Y row e5 j R⟩
 case h0=>exact⟨by simp,Below.refl _ _⟩
 case hAx=>intro y a' _ X Y row P j R;obtain⟨Bx,h1,h2,h3⟩:=P;exact⟨Bx,h1,aK.own (β:=Unit) _ (λ_=>_) _ () X Y row h2 j (λr e=>(R r e).2),h3⟩
 case assign=>
  rintro l i y W K ⟨z,d⟩ I;simp only[xi]
  gi_wp2
  exact I _ _ ((KeepsOthers.alloc _ _).from _) ((Below.refl _ W).alloc d.size _) ⟨z,d.alloc d.size _⟩ ⟨W.heap.size,by have:=d.size;omega,aK.new W _ _,rfl⟩
 case body=>
  rintro l i y a' W hl ⟨r,R⟩ ⟨z,d⟩ ⟨Bx,bl,m,rfl⟩ bn;have HP:=am z;have M:=am d;have bb:=y.2.2;have q:W0.heap.size<=W.heap.size:=d.size;have al:=bX.below d (by omega);have aq:=bR.below d (by omega);have ar:=bB.below d (by omega);clear z d;obtain⟨⟨iy,⟨E,hE⟩⟩,rfl⟩:∃y',y=y':=⟨y,rfl⟩;have c0:W.cell? ⟨Bx,0,none⟩=some (.int .u32 E.addr):=m.cell 0;have c1:W.cell? ⟨Bx,1,none⟩=some (.int .i64 E.len):=m.cell 1;have c2:W.cell? ⟨Bx,2,none⟩=some (.int .i64 E.tag):=m.cell 2;have c3:W.cell? ⟨Bx,3,none⟩=some (.int .i64 E.met):=m.cell 3;have c4:W.cell? ⟨Bx,4,none⟩=some (.int .i64 E.az):=m.cell 4;have c5:W.cell? ⟨Bx,5,none⟩=some (.int .i64 E.bM):=m.cell 5;have c6:W.cell? ⟨Bx,6,none⟩=some (.bool E.ci):=m.cell 6;have hd:1<=6 - 1 - 1:=by decide
  have bo:Fence.wide.fn 103:=trivial;have bp:Fence.wide.fn 104:=trivial;by_cases t:E.met=16
  .have A:decide (E.met=16)=true:=by simpa using t
   have au:jh x E=false:=by simp[jh,t]
   have J:=vS.{u} E W;rw[A]at J;clear t A
   gi_wp2_with (gi_at_call 103;refine(CallsIn.inRound l (callsIn_wide.2 J)).mono ?_;rintro e w1 ⟨rfl,f⟩)
   refine⟨f.keeps _,f.below.mono q,?_,(ai M).trans (f.below.mono q)⟩;intro p z;obtain h|h:=kf.1 z
   .exact ai HP p h
   .simp at h;subst h;exact au
  .have A:decide (E.met=16)=false:=by simpa using t
   have T:jh x E=a5Y E.addr E.len x:=by simp[jh,t]
   have J:=vS.{u} E W;rw[A]at J;clear t A;have cx:W.cell? ⟨w.heap.size+1,0,none⟩=some (.int .u32 x):=al.cell 0;have U:=λw1=>S5.{u} E.addr E.len x w1 hE.1 hE.2 hx ab;rw[<-T]at U;clear T;cases O:jh x E with
   |false=>
    rw[O]at U;have HQ:=am O;clear O
    gi_wp2_with (first|(gi_at_call 103;refine(CallsIn.inRound l (callsIn_wide.2 J)).mono ?_;rintro e w1 ⟨rfl,f⟩;have e0:=f.cell c0;have S:=f.cell c1;have ex:=f.cell cx)|(gi_at_call 104;refine(CallsIn.inRound l (callsIn_wide.2 (U _))).mono ?_;rintro e w2 ⟨rfl,N⟩))
    have j:=f.trans N;refine⟨j.keeps _,j.below.mono q,?_,(ai M).trans (j.below.mono q)⟩;intro p z;obtain h|h:=kf.1 z
    .exact ai HP p h
    .simp at h;subst h;exact ai HQ
   |true=>
    rw[O]at U;have HQ:=am O;clear O
    gi_wp2_with (first|(gi_at_call 103;refine(CallsIn.inRound l (callsIn_wide.2 J)).mono ?_;rintro e w1 ⟨rfl,f⟩;have e0:=f.cell c0;have S:=f.cell c1;have ex:=f.cell cx)|(gi_at_call 104;refine(CallsIn.inRound l (callsIn_wide.2 (U _))).mono ?_;rintro e w2 ⟨rfl,N⟩;have j:=f.trans N;have q0:=j.cell c0;have q1:=j.cell c1;have q2:=j.cell c2;have q3:=j.cell c3;have q4:=j.cell c4;have a:=aq.dY j;have o:=ar.dY j;have s0:=a.cell 0;have s1:=a.cell 1;have s2:=a.cell 2;have s3:=a.cell 3;have s4:=a.cell 4;have s5:=o.cell 0;have z0:=a.frozen 0;have z1:=a.frozen 1;have z2:=a.frozen 2;have z3:=a.frozen 3;have z4:=a.frozen 4;have z5:=o.frozen 0))
    refine⟨(j.keeps _).trans ((((((((KeepsOthers.setCell _ _ _).trans (KeepsOthers.setCell _ _ _)).trans (KeepsOthers.setCell _ _ _)).trans (KeepsOthers.setCell _ _ _)).trans (KeepsOthers.setCell _ _ _)).trans (KeepsOthers.setCell _ _ _)).from _)),⟨rfl,i,_,rfl,ai HP,ai HQ,?_,?_⟩,?_⟩
    .exact(((((a.set 0 (.int .u32 E.addr)).set 1 (.int .i64 E.len)).set 2 (.int .i64 E.tag)).set 3 (.int .i64 E.met)).set 4 (.int .i64 E.az)).other (by simp) _
    .exact((((((o.other (by simp) _).other (by simp) _).other (by simp) _).other (by simp) _).other (by simp) _).set 0 (.bool true))
    .exact(((((((C.trans ((ai M).mono (by omega))).trans (j.below.mono (by omega))).setCell (p:=⟨w.heap.size+1+1,0,none⟩) (by simp;omega) _).setCell (p:=⟨w.heap.size+1+1,1,none⟩) (by simp;omega) _).setCell (p:=⟨w.heap.size+1+1,2,none⟩) (by simp;omega) _).setCell (p:=⟨w.heap.size+1+1,3,none⟩) (by simp;omega) _).setCell (p:=⟨w.heap.size+1+1,4,none⟩) (by simp;omega) _).setCell (p:=⟨w.heap.size+1+1+1,0,none⟩) (by simp;omega) _
 case done=>
  rintro D ys W J rfl ⟨z,d⟩ I;have HF:=am (Q0 z);clear z;have M:=am d;have a:=bR.below d (by omega);have o:=bB.below d (by omega);clear d;have s0:=a.cell 0;have s1:=a.cell 1;have s2:=a.cell 2;have s3:=a.cell 3;have s4:=a.cell 4;have s5:=o.cell 0;have z0:=a.frozen 0;have z1:=a.frozen 1;have z2:=a.frozen 2;have z3:=a.frozen 3;have z4:=a.frozen 4;have z5:=o.frozen 0
  gi_wp2
  have dR:=(((((a.set 0 (.int .u32 0)).set 1 (.int .i64 0)).set 2 (.int .i64 0)).set 3 (.int .i64 0)).set 4 (.int .i64 0)).other (p:=⟨w.heap.size+1+1+1,0,none⟩) (by simp) (.bool false);have dB:=((((((o.other (p:=⟨w.heap.size+1+1,0,none⟩) (by simp) (.int .u32 0)).other (p:=⟨w.heap.size+1+1,1,none⟩) (by simp) (.int .i64 0)).other (p:=⟨w.heap.size+1+1,2,none⟩) (by simp) (.int .i64 0)).other (p:=⟨w.heap.size+1+1,3,none⟩) (by simp) (.int .i64 0)).other (p:=⟨w.heap.size+1+1,4,none⟩) (by simp) (.int .i64 0)).set 0 (.bool false));have av:=am ((((((((C.trans ((ai M).mono (by omega))).setCell (p:=⟨w.heap.size+1+1,0,none⟩) (by simp;omega) (.int .u32 0)).setCell (p:=⟨w.heap.size+1+1,1,none⟩) (by simp;omega) (.int .i64 0)).setCell (p:=⟨w.heap.size+1+1,2,none⟩) (by simp;omega) (.int .i64 0)).setCell (p:=⟨w.heap.size+1+1,3,none⟩) (by simp;omega) (.int .i64 0)).setCell (p:=⟨w.heap.size+1+1,4,none⟩) (by simp;omega) (.int .i64 0)).setCell (p:=⟨w.heap.size+1+1+1,0,none⟩) (by simp;omega) (.bool false)));have H:=((((((KeepsOthers.setCell W ⟨w.heap.size+1+1,0,none⟩ (.int .u32 0)).trans (KeepsOthers.setCell _ ⟨w.heap.size+1+1,1,none⟩ (.int .i64 0))).trans (KeepsOthers.setCell _ ⟨w.heap.size+1+1,2,none⟩ (.int .i64 0))).trans (KeepsOthers.setCell _ ⟨w.heap.size+1+1,3,none⟩ (.int .i64 0))).trans (KeepsOthers.setCell _ ⟨w.heap.size+1+1,4,none⟩ (.int .i64 0))).trans (KeepsOthers.setCell _ ⟨w.heap.size+1+1+1,0,none⟩ (.bool false))).same D _ I rfl;refine⟨by simp,.inl ⟨_,_,rfl,run_takeDeferred H,?_⟩⟩;have B:=aK.own (β:=Unit) _ (λ_=>_) _ () _ _ _ dR (grownBy_putObj' _ D (.deferred none)) (λr e=>by cases e;exact⟨_,H,rfl⟩);have gB:=aK.own (β:=Unit) _ (λ_=>_) _ () _ _ _ dB (grownBy_putObj' _ D (.deferred none)) (λr e=>by cases e;exact⟨_,H,rfl⟩);refine⟨nz none,?_,by rw[ai HF],(ai av).trans (belowK_b (w:=w) (aF _) _ D _ _ (by omega) H rfl rfl)⟩;have V:=B.cell 0;have Z:=B.cell 1;have t2:=B.cell 2;have t3:=B.cell 3;have t4:=B.cell 4;have t5:=gB.cell 0;simp at V Z t2 t3 t4 t5;simp[results,Tryz.results50,go_sem,nz,lD,V,Z,t2,t3,t4,t5]
 case stop=>
  rintro D c i W J ⟨k,hk,rfl⟩ ⟨⟨rfl,v,g,S,e2,e3,aP,ba⟩,d⟩ I;have HF:=am (Q1 hk S e2 e3);have M:=am d;clear d
  gi_wp2
  refine⟨by simp,.inl ⟨_,_,rfl,run_takeDeferred I,?_⟩⟩;have B:=aK.own (β:=Unit) _ (λ_=>_) _ () _ _ _ aP (grownBy_putObj' _ D (.deferred none)) (λr e=>by cases e;exact⟨_,I,rfl⟩);have gB:=aK.own (β:=Unit) _ (λ_=>_) _ () _ _ _ ba (grownBy_putObj' _ D (.deferred none)) (λr e=>by cases e;exact⟨_,I,rfl⟩);refine⟨nz (some g.2.1),?_,by rw[ai HF],(ai M).trans (belowK_b (w:=w) (aF _) _ D _ _ (by omega) I rfl rfl)⟩;have V:=B.cell 0;have Z:=B.cell 1;have t2:=B.cell 2;have t3:=B.cell 3;have t4:=B.cell 4;have t5:=gB.cell 0;simp[nL]at V Z t2 t3 t4 t5;simp[results,Tryz.results50,go_sem,nz,nL,V,Z,t2,t3,t4,t5]
def Q2(ao n cap L x w)(d:L.length=n)(i:n<=1000000)(a:∀r∈L,0<=r.len/\r.len<=32)(f:0<=x)(b:x<4294967296)(g:fP w ao L):Calls Gh.prog.{u} 50 #[.agg #[.slice ao n cap],.int .u32 x] w λe w'=>e=.returned (nz (mF L x))/\Below w.heap.size w w':=by
 have c:=YK L a;have h:(wE L a).length=n:=by rw[<-ti,c];exact d
 have:=Q4.{u} ao cap (wE L a) x w (by omega) f b (by rw[c];exact g);rw[c,h]at this;exact this
end
end Go.Proofs.q
end
section
namespace Go.Proofs
open Go.Shelf
def Gh.IV:Go.Shelf.Ren:=⟨fun|6=>130|15=>170|14=>169|28=>223|29=>224|20=>215|21=>216|22=>217|23=>218|24=>219|25=>220|26=>221|27=>222|46=>239|47=>240|48=>241|49=>242|50=>243|57=>245|n=>n,fun|22=>23|24=>32|25=>173|3=>3|39=>124|0=>0|53=>30|55=>254|4=>4|46=>330|45=>329|50=>245|5=>5|9=>9|66=>344|70=>347|76=>350|77=>351|n=>n,fun|n=>n⟩
def Gh.IU:Go.Proofs.SlLaysF0.n6 Gh.prog Gh.IV:={
 mixed:=by kernel_rfl
 f6:=⟨Tryz.f130.name,by decide,Gh.func130.trans (congrArg some (by kernel_rfl))⟩
 f14:=⟨Tryz.f169.name,by decide,Gh.func169.trans (congrArg some (by kernel_rfl))⟩
 f15:=Gh.func170.trans (congrArg some (by kernel_rfl))
 f20:=⟨Tryz.f215.name,by decide,Gh.func215.trans (congrArg some (by kernel_rfl))⟩
 f21:=⟨Tryz.f216.name,by decide,Gh.func216.trans (congrArg some (by kernel_rfl))⟩
 f22:=⟨Tryz.f217.name,by decide,Gh.func217.trans (congrArg some (by kernel_rfl))⟩
 f23:=⟨Tryz.f218.name,by decide,Gh.func218.trans (congrArg some (by kernel_rfl))⟩
 f24:=⟨Tryz.f219.name,by decide,Gh.func219.trans (congrArg some (by kernel_rfl))⟩
 f25:=⟨Tryz.f220.name,by decide,Gh.func220.trans (congrArg some (by kernel_rfl))⟩
 f26:=⟨Tryz.f221.name,by decide,Gh.func221.trans (congrArg some (by kernel_rfl))⟩
 f27:=⟨Tryz.f222.name,by decide,Gh.func222.trans (congrArg some (by kernel_rfl))⟩
 f28:=Gh.func223.trans (congrArg some (by kernel_rfl))
 f29:=Gh.func224.trans (congrArg some (by kernel_rfl))
 f46:=⟨Tryz.f239.name,by decide,Gh.func239.trans (congrArg some (by kernel_rfl))⟩
 f47:=Gh.func240.trans (congrArg some (by kernel_rfl))
 f48:=Gh.func241.trans (congrArg some (by kernel_rfl))
 f49:=⟨Tryz.f242.name,by decide,Gh.func242.trans (congrArg some (by kernel_rfl))⟩
 f50:=⟨Tryz.f243.name,by decide,Gh.func243.trans (congrArg some (by kernel_rfl))⟩
 f57:=⟨Tryz.f245.name,by decide,Gh.func245.trans (congrArg some (by kernel_rfl))⟩
 t0:=((Gh.dI 0).trans Tryz.underlying0)
 a0:=(λw=>(Gh.fX 0 w).trans (Tryz.isAgg0 w))
 z0:=(λw=>(Gh.fM 0 w).trans (Tryz.sizeOf0 w))
 v0:=(λw=>(Gh.gU 0 w).trans (Tryz.zeroValue0 w))
 t3:=((Gh.dI 3).trans Tryz.underlying3)
 a3:=(λw=>(Gh.fX 3 w).trans (Tryz.isAgg3 w))
 z3:=(λw=>(Gh.fM 3 w).trans (Tryz.sizeOf3 w))
 v3:=(λw=>(Gh.gU 3 w).trans (Tryz.zeroValue3 w))
 t4:=((Gh.dI 4).trans Tryz.underlying4)
 a4:=(λw=>(Gh.fX 4 w).trans (Tryz.isAgg4 w))
 z4:=(λw=>(Gh.fM 4 w).trans (Tryz.sizeOf4 w))
 v4:=(λw=>(Gh.gU 4 w).trans (Tryz.zeroValue4 w))
 t5:=((Gh.dI 5).trans Tryz.underlying5)
 a5:=(λw=>(Gh.fX 5 w).trans (Tryz.isAgg5 w))
 z5:=(λw=>(Gh.fM 5 w).trans (Tryz.sizeOf5 w))
 v5:=(λw=>(Gh.gU 5 w).trans (Tryz.zeroValue5 w))
 t9:=((Gh.dI 9).trans Tryz.underlying9)
 a9:=(λw=>(Gh.fX 9 w).trans (Tryz.isAgg9 w))
 z9:=(λw=>(Gh.fM 9 w).trans (Tryz.sizeOf9 w))
 v9:=(λw=>(Gh.gU 9 w).trans (Tryz.zeroValue9 w))
 t22:=((Gh.dI 23).trans Tryz.underlying23)
 a22:=(λw=>(Gh.fX 23 w).trans (Tryz.isAgg23 w))
 z22:=(λw=>(Gh.fM 23 w).trans (Tryz.sizeOf23 w))
 v22:=(λw=>(Gh.gU 23 w).trans (Tryz.zeroValue23 w))
 t25:=((Gh.dI 173).trans Tryz.underlying173)
 a25:=(λw=>(Gh.fX 173 w).trans (Tryz.isAgg173 w))
 z25:=(λw=>(Gh.fM 173 w).trans (Tryz.sizeOf173 w))
 v25:=(λw=>(Gh.gU 173 w).trans (Tryz.zeroValue173 w))
 t39:=((Gh.dI 124).trans Tryz.underlying124)
 a39:=(λw=>(Gh.fX 124 w).trans (Tryz.isAgg124 w))
 z39:=(λw=>(Gh.fM 124 w).trans (Tryz.sizeOf124 w))
 v39:=(λw=>(Gh.gU 124 w).trans (Tryz.zeroValue124 w))
 t45:=((Gh.dI 329).trans Tryz.underlying329)
 a45:=(λw=>(Gh.fX 329 w).trans (Tryz.isAgg329 w))
 z45:=(λw=>(Gh.fM 329 w).trans (Tryz.sizeOf329 w))
 v45:=(λw=>(Gh.gU 329 w).trans (Tryz.zeroValue329 w))
 t46:=((Gh.dI 330).trans Tryz.underlying330)
 a46:=(λw=>(Gh.fX 330 w).trans (Tryz.isAgg330 w))
 z46:=(λw=>(Gh.fM 330 w).trans (Tryz.sizeOf330 w))
 v46:=(λw=>(Gh.gU 330 w).trans (Tryz.zeroValue330 w))
 t50:=((Gh.dI 245).trans Tryz.underlying245)
 a50:=(λw=>(Gh.fX 245 w).trans (Tryz.isAgg245 w))
 z50:=(λw=>(Gh.fM 245 w).trans (Tryz.sizeOf245 w))
 v50:=(λw=>(Gh.gU 245 w).trans (Tryz.zeroValue245 w))
 t53:=((Gh.dI 30).trans Tryz.underlying30)
 a53:=(λw=>(Gh.fX 30 w).trans (Tryz.isAgg30 w))
 z53:=(λw=>(Gh.fM 30 w).trans (Tryz.sizeOf30 w))
 v53:=(λw=>(Gh.gU 30 w).trans (Tryz.zeroValue30 w))
 t55:=((Gh.dI 254).trans Tryz.underlying254)
 a55:=(λw=>(Gh.fX 254 w).trans (Tryz.isAgg254 w))
 z55:=(λw=>(Gh.fM 254 w).trans (Tryz.sizeOf254 w))
 v55:=(λw=>(Gh.gU 254 w).trans (Tryz.zeroValue254 w))
 t66:=((Gh.dI 344).trans Tryz.underlying344)
 a66:=(λw=>(Gh.fX 344 w).trans (Tryz.isAgg344 w))
 z66:=(λw=>(Gh.fM 344 w).trans (Tryz.sizeOf344 w))
 v66:=(λw=>(Gh.gU 344 w).trans (Tryz.zeroValue344 w))
 t70:=((Gh.dI 347).trans Tryz.underlying347)
 a70:=(λw=>(Gh.fX 347 w).trans (Tryz.isAgg347 w))
 z70:=(λw=>(Gh.fM 347 w).trans (Tryz.sizeOf347 w))
 v70:=(λw=>(Gh.gU 347 w).trans (Tryz.zeroValue347 w))
 t76:=((Gh.dI 350).trans Tryz.underlying350)
 a76:=(λw=>(Gh.fX 350 w).trans (Tryz.isAgg350 w))
 z76:=(λw=>(Gh.fM 350 w).trans (Tryz.sizeOf350 w))
 v76:=(λw=>(Gh.gU 350 w).trans (Tryz.zeroValue350 w))
 t77:=((Gh.dI 351).trans Tryz.underlying351)
 a77:=(λw=>(Gh.fX 351 w).trans (Tryz.isAgg351 w))
 z77:=(λw=>(Gh.fM 351 w).trans (Tryz.sizeOf351 w))
 v77:=(λw=>(Gh.gU 351 w).trans (Tryz.zeroValue351 w))}
end Go.Proofs
end
