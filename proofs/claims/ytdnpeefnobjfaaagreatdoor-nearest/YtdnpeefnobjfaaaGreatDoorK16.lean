import Derived.LoopIn
import Derived.LoopNIn
import Derived.OwnWalkIn
import Derived.RangeFuncBound
import Derived.RangeFuncCalls
import Derived.RangeFuncLeaves
import Derived.RangeFuncNested
import Derived.Shelf.Abstract
import Derived.Shelf.RegionOpen
import Derived.TacticsInMore
import Derived.Test.YtdnpeefnobjfaaaGreatDoorK10
set_option maxRecDepth 100000
set_option maxHeartbeats 4000000
set_option linter.all false
section
namespace Go.Proofs.q
universe u
open Go.RowKit Go.Shelf
attribute [local go_sem] Oper.semAt_some
structure Rw where
 addr:Int
 len:Int
 tag:Int
 met:Int
 an:Int
 bi:Int
 bM:Bool
deriving DecidableEq,Inhabited
def cI(r:Rw):List aj:=[.int .u32 r.addr,.int .i64 r.len,.int .i64 r.tag,.int .i64 r.met,.int .i64 r.an,.int .i64 r.bi,.bool r.bM]
def kt(w:aa)(b a:Nat)(L:List Rw):Prop:=∀k,(h:k<L.length)->w.cell? ⟨b,a+k*7,none⟩=some (.int .u32 L[k].addr)/\w.cell? ⟨b,a+k*7+1,none⟩=some (.int .i64 L[k].len)/\w.cell? ⟨b,a+k*7+2,none⟩=some (.int .i64 L[k].tag)/\w.cell? ⟨b,a+k*7+3,none⟩=some (.int .i64 L[k].met)/\w.cell? ⟨b,a+k*7+4,none⟩=some (.int .i64 L[k].an)/\w.cell? ⟨b,a+k*7+5,none⟩=some (.int .i64 L[k].bi)/\w.cell? ⟨b,a+k*7+6,none⟩=some (.bool L[k].bM)
def tl{w e:aa}{b d B:Nat}{L:List Rw}(h:kt w b d L)(a:Below B w e)(c:b<B):kt e b d L:=λk f=>by obtain⟨h0,g,i,j,l,n,o⟩:=h k f;exact⟨(a.cell (p:=⟨b,_,none⟩) c).trans h0,(a.cell (p:=⟨b,_,none⟩) c).trans g,(a.cell (p:=⟨b,_,none⟩) c).trans i,(a.cell (p:=⟨b,_,none⟩) c).trans j,(a.cell (p:=⟨b,_,none⟩) c).trans l,(a.cell (p:=⟨b,_,none⟩) c).trans n,(a.cell (p:=⟨b,_,none⟩) c).trans o⟩
def tn{w:aa}{b a:Nat}{L:List Rw}(h:kt w b a L)(h0:0<L.length):b<w.heap.size:=World.block_lt_of_cell? w _ (h 0 h0).1
def gy(w:aa)(ao:Option aF)(L:List Rw):Prop:=L=[]\/∃b a,ao=some ⟨b,a,none⟩/\kt w b a L
def ku{w c:aa}{ao:Option aF}{L:List Rw}(h:gy w ao L)(e:Below w.heap.size w c):gy c ao L:=by
 obtain h|⟨b,a,f,d⟩:=h
 .exact .inl h
 .by_cases h0:0<L.length
  .exact .inr ⟨b,a,f,tl d e (tn d h0)⟩
  .exact .inl (gj a9h)
def a9H(a l x:Int):Bool:=decide (x - x%2^(32 - l).toNat=a)
def ka(x:Int)(r:Rw):Bool:= !(decide (r.met=16))&&a9H r.addr r.len x
abbrev iz:={r:Rw // (0<=r.len/\r.len<=32)/\ka 167838211 r=true}
instance : Inhabited iz := ⟨⟨⟨167772160, 8, 0, 1, -1, 0, true⟩, by decide⟩⟩
def ma(L:List iz):List Rw:=L.map (·.1)
def zc(L:List iz):(ma L).length=L.length:=by simp[ma]
def rK(L:List iz)(k:Nat):Int×iz:=((L.length:Int) - 1 - (k:Int),L[L.length - 1 - k]?.getD default)
def iB(L:List iz)(k:Nat):List (Int×iz):=(List.range k).map (rK L)
def OO(L:List iz)(k:Nat):iB L (k+1)=iB L k++[rK L k]:=by simp[iB,pL]
def EG(L:List iz)(k:Nat):(iB L k).length=k:=by simp[iB]
def ON(L:List iz)(k:Nat)(b:k<=L.length):(iB L k).map (·.2)=L.reverse.take k:=by
 apply b1n
 .simp[iB];omega
 .intro i a c;have d:i<k:=by simpa[iB]using a
  simp only[iB,b0R,b0t,List.getElem_range,Function.comp_apply,rK,b0o,List.getElem_reverse];rw[iM a9h];rfl
def zF(x:Int×iz):Array aj:=#[.int .i64 x.1,.agg #[.int .u32 x.2.1.addr,.int .i64 x.2.1.len,.int .i64 x.2.1.tag,.int .i64 x.2.1.met,.int .i64 x.2.1.an,.int .i64 x.2.1.bi,.bool x.2.1.bM]]
def OW(F:Fence)(n:Nat)(R:F.fn 152)(t:F.round=none)(hn:1<=n)(l j s b f len cap:Nat)(L:List iz)(D:L.length=len)(H:len<=1000000)(S:b<s)(o:j<s)(J I:List (Int×iz)->aa->Prop)(T:∀a x W,J a W->a.length<len->YieldAt F (n - 1) Gh.prog.{u} l (zF x) W λe h=>(e=.returned (.bool true)/\J (a++[x]) h/\Below s W h)\/(e=.returned (.bool false)/\I (a++[x]) h))(W:aa)(w:W.cell? ⟨j,0,none⟩=some (.slice (some ⟨b,f,none⟩) len cap))(K:kt W b f (ma L))(h0:J [] W):CallsIn F n Gh.prog.{u} 152 #[.func (.yield l) #[] #[],.pointer (some ⟨j,0,none⟩)] W λe h=>(∃v,e=.returned v)/\((∃M,M=iB L len/\J M h)\/(∃a,(∃k,k<=len/\a=iB L k)/\I a h)):=by
 refine callsIn_of_wp Gh.func152 rfl R ?_ t;simp only[Tryz.ntmps152,fV,gm,ir,Nat.reduceAdd,Nat.reduceSub,kE,kF,kM,kI,iu,fU];have N:=ak D;have U:=ak K;clear D K
 gi_wp2
 gi_loopw [3] (λi wr=> ∃m:Nat,m<=len/\i=.int .i64 ((m:Int) - 1)/\J (iB L (len - m)) wr/\Below s W wr)
  (λi _=>(intOf i+1).toNat)
 case atStart=>exact⟨len,az _,rfl,by rw[b1O];exact h0,Below.refl _ _⟩
 case round=>
  obtain⟨m,hk,rfl,q,g⟩:=hrel;have V:wr.cell? ⟨j,0,none⟩=some (.slice (some ⟨b,f,none⟩) len cap):=(g.cell (p:=⟨j,0,none⟩) o).trans w;cases m with
  |succ m=>
   obtain⟨fn,O,assign,body,P,y⟩:=T _ (rK L (len - (m+1))) wr q (by rw[EG];omega);have z:m<L.length:=by rw[af N];omega
   obtain⟨X,c1,c2,Y,Z,c5,c6⟩:=tl (af U) g S m (by rw[zc];exact z);have d:(ma L)[m]'(by rw[zc];exact z)=L[m].1:=by simp[ma]
   rw[d]at X c1 c2 Y Z c5 c6;clear d;have A:rK L (len - (m+1))=((m:Int),L[m]):=by simp only[rK,af N];rw[show len - 1 - (len - (m+1))=m by omega,iM z,show(len:Int) - 1 - ((len - (m+1):Nat):Int)=m by omega];rfl
   have c:iB L (len - (m+1))++[((m:Int),L[m])]=iB L (len - m):=by rw[<-A,<-OO,show len - (m+1)+1=len - m by omega]
   rw[A]at P y;simp only[zF]at P;rw[c]at y;clear A c;generalize L[m]=E at*;have Q:(((m+1:Nat):Int) - 1)=(m:Int):=a9h
   have ab:(0:Int)<=(m:Int):=a9h
   have ad:(m:Int)<(len:Int):=a9h
   rw[Q];clear Q
   gi_wp2
   refine y.mono ?_;rintro e W3 (⟨rfl,B,C⟩|⟨rfl,r⟩)
   .gi_wp2
    go_roundw
    case rel=>exact⟨m,a9h,by go_num,B,g.trans C⟩
    case measure=>simp[intOf]
   .gi_wp2
    refine bodyPost_ret (results_none rfl _ _ _) rfl ?_;exact⟨⟨_,rfl⟩,.inr ⟨_,⟨len - m,a9h,rfl⟩,r⟩⟩
  |zero=>
   gi_wp2
   go_end0;exact⟨⟨_,rfl⟩,.inl ⟨_,rfl,q⟩⟩
def OX(F:Fence)(n:Nat)(d:F.fn 152)(a:F.round=none)(l c cap:Nat)(ao:Option aF)(J:List (Int×iz)->aa->Prop)(W:aa)(f:W.cell? ⟨c,0,none⟩=some (.slice ao 0 cap))(h0:J [] W):CallsIn F n Gh.prog.{u} 152 #[.func (.yield l) #[] #[],.pointer (some ⟨c,0,none⟩)] W λe W'=>(∃v,e=.returned v)/\J [] W':=by
 refine callsIn_of_wp Gh.func152 rfl d ?_ a;simp only[Tryz.ntmps152,fV,gm,ir,Nat.reduceAdd,Nat.reduceSub,kE,kF,kM,kI,iu,fU]
 gi_wp2
 gi_loopw [3] (λi wr=>i=.int .i64 (-1)/\J [] wr) (λ_ _=>0)
 case atStart=>exact⟨rfl,h0⟩
 case round=>
  obtain⟨rfl,b⟩:=hrel
  gi_wp2
  go_end0;exact⟨⟨_,rfl⟩,b⟩
def OY(F:Fence)(n:Nat)(c:F.fn 102)(b:F.round=none)(a:Option aF)(len cap:Nat)(w:aa):CallsIn F n Gh.prog.{u} 102 #[.slice a len cap] w λe d=>e=.returned (.func (.func 152) #[] #[.pointer (some ⟨w.heap.size,0,none⟩)])/\d=w.alloc (.cells #[.slice a len cap] 118):=by
 refine callsIn_of_wp Gh.func102 rfl c ?_ b;simp only[Tryz.ntmps102,fV,gm,ir,Nat.reduceAdd,Nat.reduceSub,kE,kF,kM,kI,iu,fU]
 gi_wp2
 go_ret;exact⟨rfl,rfl⟩
def OZ(F:Fence)(n:Nat)(r:F.fn 152)(d:F.round=none)(v:1<=n)(c f cap:Nat)(ao:Option aF)(L:List iz)(g:L.length<=1000000)(w:aa)(h:c<f)(i:f<=w.heap.size)(x:w.cell? ⟨c,0,none⟩=some (.slice ao L.length cap))(hI:L=[]\/∃b a,ao=some ⟨b,a,none⟩/\b<f/\kt w b a (ma L)):SeqStopsK F n Gh.prog.{u} 152 #[.pointer (some ⟨c,0,none⟩)] zF (Below f) (λy=>y=iB L L.length) (λo=> ∃k,k<=L.length/\o=iB L k) L.length w:=λl J z W s _ _ A h0=>by
 have j:=(s.cell (p:=⟨c,0,none⟩) (bL h i)).trans x;obtain rfl|⟨b,a,rfl,t,q⟩:=hI
 .exact(OX F n r d l c cap ao J W j h0).mono λe C ⟨B,hj⟩=>⟨B,.inl ⟨_,rfl,hj⟩⟩
 .exact OW F n r d v l c f b a L.length cap L rfl g t h J z A W j (tl q s (bL t i)) h0
def B7(r:Rw)(w):Calls Gh.prog.{u} 103 #[.agg #[.int .u32 r.addr,.int .i64 r.len,.int .i64 r.tag,.int .i64 r.met,.int .i64 r.an,.int .i64 r.bi,.bool r.bM]] w λe w'=>e=.returned (.bool (decide (r.met=16)))/\aJ w w':=by go_enter Gh.func103,Tryz.ntmps103;go_wp2;go_ret;refine⟨fL ?_,(aJ.refl w).alloc _⟩;rw[m9];simp
def XL(x k)(c:x<4294967296)(d:k<=32):x&&&(4294967296 - 2^k)=x - x%2^k:=by
 have e:4294967296 - 2^k=(2^(32 - k) - 1)<<<k:=by rw[Nat.shiftLeft_eq,Nat.sub_mul,<-Nat.pow_add,Nat.sub_add_cancel d];simp
 have f:x - x%2^k=(x>>>k)<<<k:=by rw[Nat.shiftLeft_eq,Nat.shiftRight_eq_div_pow];have:=Nat.div_add_mod x (2^k);rw[Nat.mul_comm]at this;omega
 rw[e,f];apply Nat.eq_of_testBit_eq;intro i;simp only[Nat.testBit_and,Nat.testBit_shiftLeft,Nat.testBit_shiftRight,b1e];by_cases a:k<=i
 .simp only[a,decide_true,b1h];rw[Nat.add_sub_cancel' a];by_cases b:i - k<32 - k
  .simp[b]
  .have:x.testBit i=false:=b1x (bL c (by rw[show(4294967296:Nat)=2^32 from rfl];exact b0U a9j a9h));simp[this]
 .simp[a]
def VC(a l x)(h0:0<=l)(c:0<=x)(b:x<4294967296):(bits BinOp.and IntKind.u32 x (4294967296 - 2^(32 - l).toNat)==a)=a9H a l x:=by
 have g:=nZ (32 - l).toNat;have e:=nY (32 - l).toNat a9h;rw[u32_and _ _ c b a9h a9h];obtain⟨y,rfl⟩:=b0f c;have d:((2:Int)^(32 - l).toNat)=((2^(32 - l).toNat:Nat):Int):=a9i
 have f:((4294967296:Int) - 2^(32 - l).toNat).toNat=4294967296 - 2^(32 - l).toNat:=by rw[d]at e⊢;omega
 rw[f,b0n,XL y _ a9h a9h,a9H,d,m9];have h:=Nat.mod_le y (2^(32 - l).toNat);simp only[beq_iff_eq,decide_eq_true_eq];omega
def VB(a l x w)(h0:0<=l)(f:l<=32)(g:0<=x)(b:x<4294967296):Calls Gh.prog.{u} 104 #[.agg #[.int .u32 a,.int .i64 l],.int .u32 x] w λe w'=>e=.returned (.bool (a9H a l x))/\aJ w w':=by
 have h:∀W,Calls Gh.prog.{u} 127 #[.agg #[.int .u32 a,.int .i64 l]] W λe w'=>e=.returned (.int .u32 (4294967296 - 2^(32 - l).toNat))/\aJ W w':=λW=>(vw a l W h0 f).mono λ_ _ ⟨i,hw⟩=>⟨i,by rw[hw];exact(aJ.refl W).alloc _⟩;have j:=ak (VC a l x h0 g b);have d:=gQ.{u};go_enter Gh.func104,Tryz.ntmps104;go_wp2_with fail;have k:=λn c=>cell_grown (w:=w.alloc (.cells #[.int .u32 a,.int .i64 l] 32)) (a:=⟨w.heap.size,0,none⟩) a9i (show _=some (.int .u32 a)by simp) n c;have o:=λn c=>cell_grown (w:=w.alloc (.cells #[.int .u32 a,.int .i64 l] 32)) (a:=⟨w.heap.size,1,none⟩) a9i (show _=some (.int .i64 l)by simp) n c
 go_quiet_grown (first|(go_at_call 127;refine aJ.quiet (h _)))
 go_wp2;go_ret;exact⟨fL (af j),((aJ.refl w).alloc _).grow _ _⟩
def aE(W:aa)(B:Nat)(cs:Array aj)(t:bD):Prop:=W.heap[B]?=some (.cells cs t (0,0))
def aE.lt{W B cs t}(h:aE W B cs t):B<W.heap.size:=(bz.1 h).1
def aE.cell{W B cs t}(h:aE W B cs t)(i):W.cell? ⟨B,i,none⟩=cs[i]? :=by unfold aE at h;simp[World.cell?,h]
def aE.frozen{W B cs t}(h:aE W B cs t)(i):W.frozen? ⟨B,i,none⟩=false:=by unfold aE at h;simp[World.frozen?,h]
def aE.new(W:aa)(cs t):aE (W.alloc (.cells cs t)) W.heap.size cs t:=World.alloc_heap_new W _
def aE.alloc{W B cs t}(h:aE W B cs t)(o):aE (W.alloc o) B cs t:=(Below.heap_alloc W o B h.lt).trans h
def aE.below{W a B n cs t}(h:aE W B cs t)(b:Below n W a)(c:B<n):aE a B cs t:=(b.block B c).trans h
def aE.dU{W a B cs t}(h:aE W B cs t)(b:aJ W a):aE a B cs t:=h.below b.below h.lt
def aE.other{W B cs t}(h:aE W B cs t){p}(a:p.block≠B)(v):aE (W.setCell p v) B cs t:=(Below.heap_setCell _ _ _ _ (by simpa using λe=>a e.symm)).trans h
def aE.set{W B cs t}(h:aE W B cs t)(i v):aE (W.setCell ⟨B,i,none⟩ v) B (cs.setIfInBounds i v) t:=by unfold aE at h⊢;simp[World.setCell,kD,h]
def aJ.grownBy{w w'}(h:aJ w w'):w.grownBy w' none:=
 ⟨h.below.os,h.below.tape,h.below.output,h.below.size,λk a _=>h.below.block k a⟩
def aJ.keeps{w w'}(h:aJ w w')(B):KeepsFrom B w w':=KeepsFrom.of_grownBy h.grownBy (λj e=>by cases e)
theorem aE.own{β}(B)(cs:β->Array aj)(t):Own (λs W=>aE W B (cs s) t):=λs X Y row a c d=>
 (c.block B a.lt (λe=>by obtain⟨o,b,f⟩:=d B e.symm;rw[a]at b;cases b;cases f)).trans a
def so(L:List Rw)(x:Int):Option Rw:=L.reverse.find? (ka x)
def pm(r:Rw):Array aj:=#[.int .u32 r.addr,.int .i64 r.len,.int .i64 r.tag,.int .i64 r.met,.int .i64 r.an]
def rB:Array aj:=#[.int .u32 0,.int .i64 0,.int .i64 0,.int .i64 0,.int .i64 0]
def uK:Option Rw->aj
 |some r=>.tuple #[.agg (pm r),.bool true]
 |none=>.tuple #[.agg rB,.bool false]
def TU{L x k}(d:k<=L.length){b a}(e:iB L k=b++[a])(h:∀p∈b,ka x p.2.1=false)(f:ka x a.2.1=true):so (ma L) x=some a.2.1:=by
 unfold so ma;have c:=congrArg (List.map (·.2)) e;rw[ON L k d]at c;rw[<-List.map_reverse,<-b0P k L.reverse,c,nj,nj,nj,b1l,b1l];have g:((b.map (·.2)).map (·.1)).find? (ka x)=none:=by rw[b1f];intro r i;obtain⟨q,j,rfl⟩:=eS.1 i;obtain⟨p,l,rfl⟩:=eS.1 j;simp[h p l]
 rw[g];simp[f]
def TY(ao:Option aF)(cap:Nat)(L:List iz)(x:Int)(w:aa)(hn:L.length=1)(H:x=167838211)(I:gy w ao (ma L)):Calls Gh.prog.{u} 50 #[.agg #[.slice ao L.length cap],.int .u32 x] w λe w'=>e=.returned (uK (so (ma L) x))/\Below w.heap.size w w':=by
 have HN:=ak hn;have T:L.length<=1000000:=a9h
 have U:=ak H;clear hn H;refine(callsIn_wide (n:=6)).1 ?_;refine callsIn_of_wp_marks Gh.func50 rfl trivial ?_ rfl;simp only[Tryz.ntmps50,fV,gm,ir,Nat.reduceAdd,Nat.reduceSub,kE,kF,kM,kI,iu,fU];have bb:Fence.wide.fn 102:=trivial
 gi_wp2_with (gi_at_call 102;refine(OY Fence.wide (6 - 1) trivial rfl _ _ _ _).mono ?_;rintro e w' ⟨rfl,rfl⟩)
 have V:=(((aE.new (w.alloc (.cells #[.slice ao L.length cap] 120)) #[.int .u32 x] 30).alloc (.cells #[.int .u32 0,.int .i64 0,.int .i64 0,.int .i64 0,.int .i64 0] 52)).alloc (.cells #[.bool false] 4)).alloc (.cells #[.slice ao L.length cap] 118);have Z:=((aE.new ((w.alloc (.cells #[.slice ao L.length cap] 120)).alloc (.cells #[.int .u32 x] 30)) #[.int .u32 0,.int .i64 0,.int .i64 0,.int .i64 0,.int .i64 0] 52).alloc (.cells #[.bool false] 4)).alloc (.cells #[.slice ao L.length cap] 118);have bB:=(aE.new (((w.alloc (.cells #[.slice ao L.length cap] 120)).alloc (.cells #[.int .u32 x] 30)).alloc (.cells #[.int .u32 0,.int .i64 0,.int .i64 0,.int .i64 0,.int .i64 0] 52)) #[.bool false] 4).alloc (.cells #[.slice ao L.length cap] 118);have bN:=aE.new ((((w.alloc (.cells #[.slice ao L.length cap] 120)).alloc (.cells #[.int .u32 x] 30)).alloc (.cells #[.int .u32 0,.int .i64 0,.int .i64 0,.int .i64 0,.int .i64 0] 52)).alloc (.cells #[.bool false] 4)) #[.slice ao L.length cap] 118;simp only[World.size_alloc]at V Z bB bN;have z:Below w.heap.size w (((((w.alloc (.cells #[.slice ao L.length cap] 120)).alloc (.cells #[.int .u32 x] 30)).alloc (.cells #[.int .u32 0,.int .i64 0,.int .i64 0,.int .i64 0,.int .i64 0] 52)).alloc (.cells #[.bool false] 4)).alloc (.cells #[.slice ao L.length cap] 118)):=((((((aJ.refl w).alloc _).alloc _).alloc _).alloc _).alloc _).below;have ab:(((((w.alloc (.cells #[.slice ao L.length cap] 120)).alloc (.cells #[.int .u32 x] 30)).alloc (.cells #[.int .u32 0,.int .i64 0,.int .i64 0,.int .i64 0,.int .i64 0] 52)).alloc (.cells #[.bool false] 4)).alloc (.cells #[.slice ao L.length cap] 118)).heap.size=w.heap.size+5:=a9i
 obtain⟨W0,J⟩:∃W0,(((((w.alloc (.cells #[.slice ao L.length cap] 120)).alloc (.cells #[.int .u32 x] 30)).alloc (.cells #[.int .u32 0,.int .i64 0,.int .i64 0,.int .i64 0,.int .i64 0] 52)).alloc (.cells #[.bool false] 4)).alloc (.cells #[.slice ao L.length cap] 118))=W0:=⟨_,rfl⟩;rw[J]at V Z bB bN z ab⊢;clear J;have ad:=ku I z;have ae:L=[]\/∃b t,ao=some ⟨b,t,none⟩/\b<W0.heap.size/\kt W0 b t (ma L):=by
  obtain h|⟨b,t,ha,Q⟩:=ad
  .exact .inl (by have:=congrArg List.length h;rw[zc]at this;exact gj (by simpa using this))
  .by_cases h0:0<L.length
   .exact .inr ⟨b,t,ha,tn Q (by rw[zc];exact h0),Q⟩
   .exact .inl (gj a9h)
 refine wpIn_rangeFunc_ownH rfl a9j (gf:=152) (lb:=#[.pointer (some ⟨w.heap.size+1+1+1+1,0,none⟩)]) rfl trivial (enters_of Gh.func152 a9k rfl)
  (OZ Fence.wide (6 - 1) trivial rfl a9j (w.heap.size+1+1+1+1) W0.heap.size cap ao L T W0 a9h (az _) ((bN.cell 0).trans rfl) ae) belowK_t (belowK_b (az _)) (Below.refl _ _) (λ_=>rfl)
  (λg W=>g=[]/\Below W0.heap.size W0 W)
  (λc g W=>(c=.ret/\∃q d,g=q++[d]/\(∀p∈q,ka x p.2.1=false)/\ka x d.2.1=true/\aE W (w.heap.size+1+1) (pm d.2.1) 52/\aE W (w.heap.size+1+1+1) #[.bool true] 4)/\Below w.heap.size w W)
  ?hI ?hIx ?h0
  (λy a' W=> ∃Bx,w.heap.size+5<=Bx/\aE W Bx #[.int .u32 y.2.1.addr,.int .i64 y.2.1.len,.int .i64 y.2.1.tag,.int .i64 y.2.1.met,.int .i64 y.2.1.an,.int .i64 y.2.1.bi,.bool y.2.1.bM] 137/\a'={tmps:=#[.agg #[.slice ao L.length cap],.int .u32 x,.pointer (some ⟨w.heap.size,0,none⟩),.pointer (some ⟨w.heap.size+1,0,none⟩),.pointer (some ⟨w.heap.size+1+1,0,none⟩),.pointer (some ⟨w.heap.size+1+1+1,0,none⟩),undef,.pointer (some ⟨Bx,0,none⟩),.pointer (some ⟨w.heap.size,0,none⟩),.slice ao L.length cap,.func (.func 152) #[] #[.pointer (some ⟨w.heap.size+1+1+1+1,0,none⟩)],.int .i64 y.1,.agg #[.int .u32 y.2.1.addr,.int .i64 y.2.1.len,.int .i64 y.2.1.tag,.int .i64 y.2.1.met,.int .i64 y.2.1.an,.int .i64 y.2.1.bi,.bool y.2.1.bM],undef,undef,undef,undef,undef,undef,undef,undef,undef,undef,undef,undef,undef],defers:=[]})
  ?hAx ?assign ?body ?done ?stop
 case hI=>exact OwnFrom.and (ownFrom_pure _ (λ(g:List (Int×iz))=>g=[])) (ownFrom_below (az _) (az _))
 case hIx=>intro c;refine OwnFrom.and (Own.from (λs X Y row I j M=>?_) _) (ownFrom_below (az _) a9h);obtain⟨Q,q,d,R,e2,e3,e4,e5⟩:=I;exact⟨Q,q,d,R,e2,e3,aE.own (β:=Unit) _ (λ_=>pm d.2.1) _ () X Y row e4 j M,aE.own (β:=Unit) _ (λ_=> #[.bool true]) _ () X Y row e5 j M⟩
 case h0=>exact⟨rfl,Below.refl _ _⟩
 case hAx=>intro y a' _ X Y row I j M;obtain⟨Bx,h1,h2,h3⟩:=I;exact⟨Bx,h1,aE.own (β:=Unit) _ (λ_=>_) _ () X Y row h2 j (λr e=>(M r e).2),h3⟩
 case assign=>
  rintro l g y W K ⟨F,a⟩ A;simp only[zF]
  gi_wp2
  exact A _ _ ((KeepsOthers.alloc _ _).from _) ((Below.refl _ W).alloc a.size _) ⟨F,a.alloc a.size _⟩ ⟨W.heap.size,by have:=a.size;omega,aE.new W _ _,rfl⟩
 case body=>
  rintro l g y a' W hl ⟨r,M⟩ ⟨F,a⟩ ⟨Bx,bc,i,rfl⟩ bd;have HP:=ak F;have HB:=ak a;have ba:W0.heap.size<=W.heap.size:=a.size;have ap:=V.below a a9h;have aq:=Z.below a a9h;have ar:=bB.below a a9h;clear F a;obtain⟨⟨iy,⟨E,hE⟩⟩,rfl⟩:∃y',y=y':=⟨y,rfl⟩;have o:ka x E=true:=by rw[af U];exact hE.2
  have c0:W.cell? ⟨Bx,0,none⟩=some (.int .u32 E.addr):=i.cell 0;have c1:W.cell? ⟨Bx,1,none⟩=some (.int .i64 E.len):=i.cell 1;have c2:W.cell? ⟨Bx,2,none⟩=some (.int .i64 E.tag):=i.cell 2;have c3:W.cell? ⟨Bx,3,none⟩=some (.int .i64 E.met):=i.cell 3;have c4:W.cell? ⟨Bx,4,none⟩=some (.int .i64 E.an):=i.cell 4;have c5:W.cell? ⟨Bx,5,none⟩=some (.int .i64 E.bi):=i.cell 5;have c6:W.cell? ⟨Bx,6,none⟩=some (.bool E.bM):=i.cell 6;have hd:1<=6 - 1 - 1:=a9j
  have bl:Fence.wide.fn 103:=trivial;have bn:Fence.wide.fn 104:=trivial;have B: ¬E.met=16:=λh=>by simp[ka,h]at o
  have N:decide (E.met=16)=false:=by simpa using B
  have O:ka x E=a9H E.addr E.len x:=by simp[ka,B]
  have S:=B7.{u} E W;rw[N]at S;clear B N;have cx:W.cell? ⟨w.heap.size+1,0,none⟩=some (.int .u32 x):=ap.cell 0;have hH:=λw1=>VB.{u} E.addr E.len x w1 hE.1.1 hE.1.2 (by rw[af U];decide) (by rw[af U];decide);rw[<-O]at hH;clear O;rw[o]at hH;have HQ:=ak o;clear o
  gi_wp2_with (first|(gi_at_call 103;refine(CallsIn.inRound l (callsIn_wide.2 S)).mono ?_;rintro e w1 ⟨rfl,v⟩;have e0:=v.cell c0;have R:=v.cell c1;have ex:=v.cell cx)|(gi_at_call 104;refine(CallsIn.inRound l (callsIn_wide.2 (hH _))).mono ?_;rintro e w2 ⟨rfl,au⟩;have j:=v.trans au;have q0:=j.cell c0;have q1:=j.cell c1;have q2:=j.cell c2;have q3:=j.cell c3;have q4:=j.cell c4;have f:=aq.dU j;have C:=ar.dU j;have s0:=f.cell 0;have s1:=f.cell 1;have s2:=f.cell 2;have s3:=f.cell 3;have s4:=f.cell 4;have s5:=C.cell 0;have z0:=f.frozen 0;have z1:=f.frozen 1;have z2:=f.frozen 2;have z3:=f.frozen 3;have z4:=f.frozen 4;have z5:=C.frozen 0))
  refine⟨(j.keeps _).trans ((((((((KeepsOthers.setCell _ _ _).trans (KeepsOthers.setCell _ _ _)).trans (KeepsOthers.setCell _ _ _)).trans (KeepsOthers.setCell _ _ _)).trans (KeepsOthers.setCell _ _ _)).trans (KeepsOthers.setCell _ _ _)).from _)),⟨rfl,g,_,rfl,(by rw[af HP];simp),af HQ,?_,?_⟩,?_⟩
  .exact(((((f.set 0 (.int .u32 E.addr)).set 1 (.int .i64 E.len)).set 2 (.int .i64 E.tag)).set 3 (.int .i64 E.met)).set 4 (.int .i64 E.an)).other a9i _
  .exact((((((C.other a9i _).other a9i _).other a9i _).other a9i _).other a9i _).set 0 (.bool true))
  .exact(((((((z.trans ((af HB).mono a9h)).trans (j.below.mono a9h)).setCell (p:=⟨w.heap.size+1+1,0,none⟩) a9l _).setCell (p:=⟨w.heap.size+1+1,1,none⟩) a9l _).setCell (p:=⟨w.heap.size+1+1,2,none⟩) a9l _).setCell (p:=⟨w.heap.size+1+1,3,none⟩) a9l _).setCell (p:=⟨w.heap.size+1+1,4,none⟩) a9l _).setCell (p:=⟨w.heap.size+1+1+1,0,none⟩) a9l _
 case done=>rintro D ys W S rfl ⟨F,a⟩ A;have:=congrArg List.length F;rw[EG,af HN]at this;cases this
 case stop=>
  rintro D c g W S ⟨k,hk,rfl⟩ ⟨⟨rfl,q,d,R,e2,e3,av,aP⟩,a⟩ A;have HF:=ak (TU hk R e2 e3);have HB:=ak a;clear a
  gi_wp2
  refine⟨a9i,.inl ⟨_,_,rfl,run_takeDeferred A,?_⟩⟩;have P:=aE.own (β:=Unit) _ (λ_=>_) _ () _ _ _ av (grownBy_putObj' _ D (.deferred none)) (λr e=>by cases e;exact⟨_,A,rfl⟩);have gB:=aE.own (β:=Unit) _ (λ_=>_) _ () _ _ _ aP (grownBy_putObj' _ D (.deferred none)) (λr e=>by cases e;exact⟨_,A,rfl⟩);refine⟨uK (some d.2.1),?_,by rw[af HF],(af HB).trans (belowK_b (w:=w) (az _) _ D _ _ a9h A rfl rfl)⟩;have t0:=P.cell 0;have t1:=P.cell 1;have t2:=P.cell 2;have t3:=P.cell 3;have t4:=P.cell 4;have t5:=gB.cell 0;simp[pm]at t0 t1 t2 t3 t4 t5;simp[results,Tryz.results50,go_sem,uK,pm,t0,t1,t2,t3,t4,t5]
def TV(ao:Option aF)(cap:Nat)(r:Rw)(w:aa)(a:(0<=r.len/\r.len<=32)/\ka 167838211 r=true)(b:gy w ao [r]):Calls Gh.prog.{u} 50 #[.agg #[.slice ao 1 cap],.int .u32 167838211] w λe w'=>e=.returned (uK (so [r] 167838211))/\Below w.heap.size w w':=
 TY ao cap [⟨r,a⟩] _ w rfl rfl b
end Go.Proofs.q
end
