import Derived.Laws.LoneSync
import Derived.Lib.AppendZeros
import Derived.Maps.AppendAt
import Derived.OwnWalk
import Derived.Test.YtdnpeefnobjfaaaGreatDoorK12
import Derived.Test.YtdnpeefnobjfaaaGreatDoorK16
set_option maxRecDepth 100000
set_option maxHeartbeats 4000000
set_option linter.all false
section
namespace Go.Proofs.q
universe u
open Go.RowKit
attribute [local go_sem ↓] Go.wp_at_zero Go.wp_at_succ
def cW(l:List Int):List aj:=l.map (.int .i64)
def CE(l):(cW l).length=l.length:=by simp[cW]
def a9f(l):∀u∈cW l,u.oneCell'=true:=by intro u a;simp only[cW,eS]at a;obtain⟨x,_,rfl⟩:=a;rfl
def ZA{w b a l}(h:qv w b a l):∀j u,(cW l)[j]?=some u->w.cell? ((⟨b,a,none⟩:aF).add j)=some u:=by
 intro j u c;have d:j<l.length:=by
  have:=(nh.1 c).1
  rwa [CE]at this
 have:=h j d;rw[show(⟨b,a,none⟩:aF).add j=⟨b,a+j,none⟩by unfold Addr.add;split<;>simp_all];rw[this];simp[cW,d]at c;rw[c]
def jO(w:aa)(v:aj):Prop:=∀a n c,v=.slice (some a) n c->∃b,w.heap[a.block]?=some (.cells b 3)/\∀x∈b,∃i,x=Value.int .i64 i
def PZ(b o n cap l w)(t:l.length=n)(h0:0<n)(Q:n<=8)(N:b<w.heap.size)(K:qv w b o l):Calls Gh.prog.{u} 36 #[.slice (some ⟨b,o,none⟩) n cap] w λe y=> ∃v,e=.returned v/\y.ownsRow w.heap.size 3 1 v n (cW l)/\Below w.heap.size w y/\(0<n->jO y v):=by
 obtain⟨O,z,A,B,C⟩:=info_parts Gh.B6.{u};have R:∀(w:aa) (a:Option aF) (n c D E:Nat),(binOp .eql 22 (.slice a n c) (.slice none D E)).run Gh.prog.{u} w=.ok (.bool a.isNone) w:=λw a n c D E=>Lib.run_eql_slice_nil w _ _ a n c D E Gh.underlying22;have g:∀F,(Builtin.append_ #[22,22] F #[.slice (some ⟨w.heap.size,0,none⟩) 0 0,.slice (some ⟨b,o,none⟩) n cap]).run Gh.prog.{u} (w.alloc (.cells #[] 3))=
   .ok (.slice (some ⟨(w.alloc (.cells #[] 3)).heap.size,0,none⟩) (0+n) (grownCap (w.alloc (.cells #[] 3)) (0+n) 0 3)) ((w.alloc (.cells #[] 3)).drew.alloc (.cells (([]:List aj).toArray++(cW l).toArray++Builtin.zeroCells (Value.int .i64 0).cells (grownCap (w.alloc (.cells #[] 3)) (0+n) 0 3 - (0+n))) 3)):=λF=>
  run_append_grow _ 22 F 3 O _ Gh.underlying22 z A ⟨w.heap.size,0,none⟩ 0 0 [] a9i (by intro j v h;simp at h) ⟨b,o,none⟩ n cap (cW l) (by rw[CE,t,B];omega) (ZA (Jd K (bZ w (.cells #[] 3)) N)) a9h a9h (by rw[C];exact growslice_fits a9h a9h)
 simp only[dC]at g;have H:n<=grownCap (w.alloc (.cells #[] 3)) n 0 3:=grownCap_ge _ _ _ _;have I:=grownCap_le_maxLen (w.alloc (.cells #[] 3)) n 0 3 (by unfold maxLen;omega);generalize grownCap (w.alloc (.cells #[] 3)) n 0 3=G at*;obtain⟨d,f⟩:∃d:Array aj,d=([]:List aj).toArray++(cW l).toArray++Builtin.zeroCells (Value.int .i64 0).cells (G - n):=⟨_,rfl⟩;rw[<-f]at g;have L:d.size=G*1/\d.toList.take (n*1)=cW l:=by
  have M:(cW l).length=n*1:=by rw[CE,t];omega
  constructor
  .rw[f];simp only[a9Z,fV,size_zeroCells,M];simp[Value.cells];omega
  .rw[f,<-M];simp
 have p:∀x∈d,∃i,x=Value.int .i64 i:=by
  intro x J;rw[f]at J;simp only[ot,lI]at J;obtain(h|h)|h:=J
  .simp at h
  .simp only[cW,eS]at h;obtain⟨i,_,rfl⟩:=h;exact⟨i,rfl⟩
  .simp only[Builtin.zeroCells,mr]at h;obtain⟨i,_,rfl⟩:=h;refine⟨0,?_⟩;simp[Value.cells,b1z]
 have s:=ak L;have P:=ak p;clear f t K L p;go_enter Gh.func36,Tryz.ntmps36;go_wp2_with (at_builtin;go_loud (refine Lib.wpList_append_run _ rfl _ _ _ _ rfl _ _ rfl rfl _ _ (g _) ?_));go_ret;have q:((w.alloc (.cells #[] 3)).alloc (.cells d 3)).drew.heap[w.heap.size+1]?=some (.cells d 3):=by have:=heap_alloc_new (w.alloc (.cells #[] 3)) (.cells d 3);rw[World.size_alloc]at this;exact this
 have r:(cW l).length=n*1:=by rw[<-(af s).2,jX,pD,(af s).1];omega
 refine⟨_,rfl,⟨r,.inr ⟨_,G,d,rfl,a9h,q,H,I,(af s).1,(af s).2⟩⟩,((bZ w _).alloc a9i _).drew,λ_ a k c e=>?_⟩;cases e;exact⟨d,q,af P⟩
def P2(a cap w):Calls Gh.prog.{u} 36 #[.slice (some a) 0 cap] w λe w'=> ∃v,e=.returned v/\w'.ownsRow w.heap.size 3 1 v 0 []/\Below w.heap.size w w':=by obtain⟨o,d,f,g,h⟩:=info_parts Gh.B6.{u};have r:∀(w:aa) (a:Option aF) (n c i k:Nat),(binOp .eql 22 (.slice a n c) (.slice none i k)).run Gh.prog.{u} w=.ok (.bool a.isNone) w:=λw a n c i k=>Lib.run_eql_slice_nil w _ _ a n c i k Gh.underlying22;go_enter Gh.func36,Tryz.ntmps36;go_wp2_with (at_builtin;go_loud (refine wpList_append_own _ rfl (.tmp 5) (.tmp 6) 22 rfl w.heap.size 3 o (.int .i64 0) 1 8 Gh.underlying22 d f g h rfl a9j (.slice (some ⟨w.heap.size,0,none⟩) 0 0) 0 [] rfl ⟨rfl,.inr ⟨w.heap.size,0,#[],rfl,az _,by exact heap_alloc_new w _,az _,by unfold maxLen;omega,rfl,rfl⟩⟩ a 0 cap [] rfl rfl (by intro j u p;simp at p) a9i a9j a9j a9i ?_;intro s t b l q));go_ret;exact⟨_,rfl,b,(bZ w _).trans ((Below.refl _ _).grown l a9i (by simp[Value.ownBlock]))⟩
def PY(w):Calls Gh.prog.{u} 36 #[.slice none 0 0] w λe b=> ∃v,e=.returned v/\b.ownsRow w.heap.size 3 1 v 0 []/\Below w.heap.size w b/\jO b v:=by have g:∀(w:aa) (a:Option aF) (n c d f:Nat),(binOp .eql 22 (.slice a n c) (.slice none d f)).run Gh.prog.{u} w=.ok (.bool a.isNone) w:=λw a n c d f=>Lib.run_eql_slice_nil w _ _ a n c d f Gh.underlying22;go_enter Gh.func36,Tryz.ntmps36;go_wp2;go_ret;exact⟨_,rfl,World.ownsRow_nil _ _ _ _,Below.refl _ _,λa n c e=>by cases e⟩
def PX(ao n cap l w)(d:l.length=n)(j:n<=8)(c:ao=none->n=0/\cap=0)(k:fO w ao l):Calls Gh.prog.{u} 36 #[.slice ao n cap] w λe f=> ∃v,e=.returned v/\f.ownsRow w.heap.size 3 1 v n (cW l)/\Below w.heap.size w f/\(0<n\/ao=none->jO f v):=by
 by_cases h0:n=0
 .subst h0;have:l=[]:=gj d;subst this;cases ao with
  |none=>obtain⟨_,rfl⟩:=c rfl;exact(PY w).mono λ_ _ ⟨v,h1,h2,h3,h4⟩=>⟨v,h1,h2,h3,λ_=>h4⟩
  |some a=>exact(P2 a cap w).mono λ_ _ ⟨v,h1,h2,h3⟩=>⟨v,h1,h2,h3,λh=>by obtain h|h:=h;exact absurd h (oC _);cases h⟩
 .rcases k with rfl|⟨b,g,rfl,i⟩
  .simp at d;omega
  .exact(PZ b g n cap l w d a9h j (Je i a9h) i).mono λ_ _ ⟨v,h1,h2,h3,h4⟩=>⟨v,h1,h2,h3,λ_=>h4 a9h⟩
end Go.Proofs.q
end
section
namespace Go.Proofs.q
universe u
open Go.RowKit Go.Shelf
attribute [local go_sem] Oper.semAt_some
def yU(p:Pf):Array aj:=#[.agg #[.int .u32 p.addr,.int .i64 p.len]]
def a5G(F n)(P:F.fn 131)(o:F.round=none)(V:1<=n)(l A f b g len cap L)(B:L.length=len)(C:len<=1000000)(Q:b<f)(J D:List Pf->aa->Prop)(W)(p:f<=W.heap.size)(q:AbidesFrom W.heap.size J)(R:∀a x W,J a W->a.length<len->YieldAt F (n - 1) Gh.prog.{u} l (yU x) W λe d=>(e=.returned (.bool true)/\J (a++[x]) d/\Below f W d)\/(e=.returned (.bool false)/\D (a++[x]) d))(S:W.cell? ⟨A,0,none⟩=some (.slice (some ⟨b,g,none⟩) len cap))(H:kl W b g L)(h0:J [] W):CallsIn F n Gh.prog.{u} 131 #[.func (.yield l) #[] #[],.pointer (some ⟨A,0,none⟩)] W λe d=>(∃v,e=.returned v)/\((∃I,I=L/\J I d)\/(∃a,a<+:L/\D a d)):=by
 refine callsIn_of_wp Gh.func131 rfl P ?_ o;simp only[Tryz.ntmps131,fV,gm,ir,Nat.reduceAdd,Nat.reduceSub,kE,kF,kM,kI,iu,fU];have K:=ak B;have T:=ak H;clear B H
 gi_wp2
 gi_loopw [7] (λi wr=> ∃k:Nat,k<=len/\i=.int .i64 k/\J (L.take k) wr/\Below f W wr)
  (λi _=>len - (intOf i).toNat)
 case atStart=>exact⟨0,iP _,rfl,by simpa using h0,Below.refl _ _⟩
 case round=>
  obtain⟨k,X,rfl,h,c⟩:=hrel;by_cases s:k<len
  .have M:k<L.length:=by rw[af K];exact s
   obtain⟨Y,c1⟩:=yT (af T) c Q k M;have Z:(0:Int)<=(k:Int):=a9h
   have j1:(k:Int)<(len:Int):=a9h
   have t:f<=wr.heap.size:=dt p c.size;have w:=q _ _ _ _ h (World.grownBy_alloc wr (.cells #[.int .u32 L[k].addr,.int .i64 L[k].len] 32) none) (λr e=>by cases e);obtain⟨fn,N,assign,body,U,O⟩:=R _ L[k] _ w (by rw[jX];omega);rw[<-oA M]at O;simp only[yU]at U;generalize L[k]=E at*
   gi_wp2
   refine O.mono ?_;rintro e W3 (⟨rfl,y,z⟩|⟨rfl,j⟩)
   .gi_wp2
    go_roundw
    case rel=>exact⟨k+1,a9h,by go_num,y,(c.alloc t _).trans z⟩
    case measure=>simp[intOf];omega
   .gi_wp2
    refine bodyPost_ret (results_none rfl _ _ _) rfl ?_;exact⟨⟨_,rfl⟩,.inr ⟨_,List.take_prefix _ _,j⟩⟩
  .obtain rfl:k=len:=a9h
   gi_wp2
   go_end0;exact⟨⟨_,rfl⟩,.inl ⟨_,by rw[<-af K,pN],h⟩⟩
def a5H(F n)(d:F.fn 131)(a:F.round=none)(l c cap ao)(J:List Pf->aa->Prop)(W)(f:W.cell? ⟨c,0,none⟩=some (.slice ao 0 cap))(h0:J [] W):CallsIn F n Gh.prog.{u} 131 #[.func (.yield l) #[] #[],.pointer (some ⟨c,0,none⟩)] W λe W'=>(∃v,e=.returned v)/\J [] W':=by
 refine callsIn_of_wp Gh.func131 rfl d ?_ a;simp only[Tryz.ntmps131,fV,gm,ir,Nat.reduceAdd,Nat.reduceSub,kE,kF,kM,kI,iu,fU]
 gi_wp2
 gi_loopw [7] (λi wr=>i=.int .i64 0/\J [] wr) (λ_ _=>0)
 case atStart=>exact⟨rfl,h0⟩
 case round=>
  obtain⟨rfl,b⟩:=hrel
  gi_wp2
  go_end0;exact⟨⟨_,rfl⟩,b⟩
def a5J(F n)(r:F.fn 131)(f:F.round=none)(t:1<=n)(d g cap ao L)(h:L.length<=1000000)(w)(j:d<g)(c:g<=w.heap.size)(v:w.cell? ⟨d,0,none⟩=some (.slice ao L.length cap))(hI:L=[]\/∃b a,ao=some ⟨b,a,none⟩/\b<g/\kl w b a L):SeqStopsK F n Gh.prog.{u} 131 #[.pointer (some ⟨d,0,none⟩)] yU (Below g) (λx=>x=L) (λk=>k<+:L) L.length w:=λl J y W o z _ A h0=>by
 have i:=(o.cell (p:=⟨d,0,none⟩) (bL j c)).trans v;obtain rfl|⟨b,a,rfl,s,q⟩:=hI
 .exact(a5H F n r f l d cap ao J W i h0).mono λe C ⟨B,hj⟩=>⟨B,.inl ⟨_,rfl,hj⟩⟩
 .exact a5G F n r f t l d g b a L.length cap L rfl h s J y W (dt c o.size) z A i (yT q o (bL s c)) h0
def a5I(a len cap w):Calls Gh.prog.{u} 81 #[.slice a len cap] w λe b=>e=.returned (.func (.func 131) #[] #[.pointer (some ⟨w.heap.size,0,none⟩)])/\b=w.alloc (.cells #[.slice a len cap] 23):=by
 refine(callsIn_wide (n:=3)).1 ?_;refine callsIn_of_wp Gh.func81 rfl trivial ?_ rfl;simp only[Tryz.ntmps81,fV,gm,ir,Nat.reduceAdd,Nat.reduceSub,kE,kF,kM,kI,iu,fU]
 gi_wp2
 go_ret;exact⟨rfl,rfl⟩
def pc(L:List Pf):List aj:=L.flatMap λp=> [.int .u32 p.addr,.int .i64 p.len]
def a0r(L p):pc (L++[p])=pc L++[.int .u32 p.addr,.int .i64 p.len]:=by simp[pc]
theorem Gh.V6:(Gh.prog.{u}.info? 32).map (λi=>(i.zero,i.size,i.bytes))=some (some (.agg #[.int .u32 0,.int .i64 0]),2,16):=by kernel_rfl
def OA(k cap ao L)(t:L.length<=1000000)(w)(x:k<w.heap.size)(o:w.cell? ⟨k,0,none⟩=some (.slice ao L.length cap))(z:mM w ao L):Calls Gh.prog.{u} 168 #[.slice none 0 0,.func (.func 131) #[] #[.pointer (some ⟨k,0,none⟩)]] w λe w'=> ∃v,e=.returned v/\w'.ownsRow w.heap.size 32 2 v L.length (pc L)/\Below w.heap.size w w':=by
 obtain⟨i0,hi,H,I,J⟩:=info_parts Gh.V6.{u};have M:L=[]\/∃b f,ao=some ⟨b,f,none⟩/\b<w.heap.size/\kl w b f L:=by
  obtain h|⟨b,f,N,o⟩:=z
  .exact .inl h
  .by_cases h0:0<L.length
   .exact .inr ⟨b,f,N,CX o h0,o⟩
   .exact .inl (gj a9h)
 refine(callsIn_wide (n:=6)).1 ?_;refine callsIn_of_wp_marks Gh.func168 rfl trivial ?_ rfl;simp only[Tryz.ntmps168,fV,gm,ir,Nat.reduceAdd,Nat.reduceSub,kE,kF,kM,kI,iu,fU]
 gi_wp2
 have U:=Boxed.new w 23 (.slice none 0 0);have j:Below w.heap.size w (w.alloc (.cells #[.slice none 0 0] 23)):=(Below.refl _ w).alloc (az _) _;have O:(w.alloc (.cells #[.slice none 0 0] 23)).heap.size=w.heap.size+1:=a9i
 obtain⟨W0,A⟩:∃W0,w.alloc (.cells #[.slice none 0 0] 23)=W0:=⟨_,rfl⟩;rw[A]at U j O⊢;clear A;have P:L=[]\/∃b f,ao=some ⟨b,f,none⟩/\b<w.heap.size/\kl W0 b f L:=by
  obtain h|⟨b,f,N,V,o⟩:=M
  .exact .inl h
  .exact .inr ⟨b,f,N,V,yT o j V⟩
 refine wpIn_rangeFunc_ownH rfl a9j (gf:=131) (lb:=#[.pointer (some ⟨k,0,none⟩)]) rfl trivial (enters_of Gh.func131 a9k rfl)
  (a5J Fence.wide (6 - 1) trivial rfl a9j k w.heap.size cap ao L t W0 x a9h ((j.cell (p:=⟨k,0,none⟩) x).trans o) P) belowK_t (belowK_b a9h) (Below.refl _ _) (λ_=>rfl)
  (λa W=>(∃v,Boxed W w.heap.size 23 v/\W.ownsRow w.heap.size 32 2 v a.length (pc a)/\True)/\Below w.heap.size w W)
  (λ_ _ _=>False)
  (OwnFrom.and (Own.from (holdsRow_own w.heap.size w.heap.size 23 32 2 (λ(a:List Pf)=>a.length) (λ(a:List Pf)=>pc a) (λ_ _=>True)) _) (ownFrom_below (az _) a9h))
  (λ_ _ _ _ _ z _ _=>z)
  ⟨⟨_,U,World.ownsRow_nil _ _ _ _,trivial⟩,j⟩
  (λy Q W=> ∃Bx,w.heap.size<Bx/\aE W Bx #[.int .u32 y.addr,.int .i64 y.len] 32/\Q={tmps:=#[.slice none 0 0,.func (.func 131) #[] #[.pointer (some ⟨k,0,none⟩)],.pointer (some ⟨w.heap.size,0,none⟩),undef,.slice none 0 0,.pointer (some ⟨Bx,0,none⟩),.func (.func 131) #[] #[.pointer (some ⟨k,0,none⟩)],.agg #[.int .u32 y.addr,.int .i64 y.len],undef,undef,undef,undef,undef],defers:=[]})
  ?hAx ?assign ?body ?done ?stop
 case hAx=>intro y Q _ X Y row z hg Z;obtain⟨Bx,h1,h2,h3⟩:=z;exact⟨Bx,h1,aE.own (β:=Unit) _ (λ_=>_) _ () X Y row h2 hg (λr e=>(Z r e).2),h3⟩
 case assign=>
  rintro l a y W K ⟨⟨v,q,d,_⟩,g⟩ B;simp only[yU]
  gi_wp2
  exact B _ _ ((KeepsOthers.alloc _ _).from _) ((Below.refl _ W).alloc g.size _) ⟨⟨v,q.alloc _,d.alloc _,trivial⟩,g.alloc g.size _⟩ ⟨W.heap.size,q.lt,aE.new W _ _,rfl⟩
 case body=>
  rintro l a y Q W hl ⟨r,Z⟩ ⟨⟨v,q,d,_⟩,g⟩ ⟨Bx,ad,C,rfl⟩ ae;have ap:=q.cell;have c0:W.cell? ⟨Bx,0,none⟩=some (.int .u32 y.addr):=C.cell 0;have c1:W.cell? ⟨Bx,1,none⟩=some (.int .i64 y.len):=C.cell 1;have aq:a.length<1000000:=a9h
  gi_wp2_with (gi_at_builtin;go_loud (refine wpListIn_append_own _ rfl _ _ 23 rfl w.heap.size 32 i0 (.agg #[.int .u32 0,.int .i64 0]) 2 16 Gh.underlying23 hi H I J rfl a9j _ _ _ rfl (d.alloc _) ⟨W.heap.size,0,none⟩ 1 1 [.int .u32 y.addr,.int .i64 y.len] rfl rfl (by exact World.news_of_block (heap_alloc_new W _)) (by simp[Value.oneCell']) (by unfold maxLen;omega) a9h (by have:=g.size;simp;omega) ?_;intro v' w1 i s _;obtain⟨g',ab,rfl⟩:=ownsRow_succ i;obtain⟨E,R,S,T,F⟩:=q.appended a9j d g.size (az _) i s;have ar:=E.cell;have au:=E.frozen))
  exact⟨T.from _,F,⟨_,R,by rw[a0r,iN];exact S,trivial⟩,g.trans F⟩
 case done=>
  rintro D ys W hD rfl ⟨⟨v,q,d,_⟩,hB⟩ B;have o:=q.cell
  gi_wp2
  refine⟨a9i,.inl ⟨_,_,rfl,run_takeDeferred B,?_⟩⟩;exact⟨_,results_tmp rfl _ _ _,v,rfl,ownsRow_putObj d _ B rfl,hB.trans (belowK_b (w:=w) (az _) W D _ _ a9h B rfl rfl)⟩
 case stop=>rintro D c a W _ _ h _;exact h.elim
end Go.Proofs.q
end
section
namespace Go.Proofs.q
universe u
open Go.RowKit Go.Shelf Go.Sort
def dQ(p q:Pf):Prop:=p.addr<q.addr\/p.addr=q.addr/\p.len<q.len
def Qb(p q):lT p q<0↔dQ p q:=by
 unfold lT iF dQ;by_cases a:p.addr<q.addr
 .simp[a]
 .by_cases c:q.addr<p.addr
  .simp[a,c];omega
  .have:p.addr=q.addr:=a9h
   by_cases b:p.len<q.len
   .simp[this,b]
   .by_cases d:q.len<p.len<;>simp[this,b,d]
def yV(L:List Pf):Prop:=L.Pairwise λp q=> ¬dQ q p
def Wi(p:Option aF)(cap:Nat)(a:aj)(w:aa):Calls Gh.prog.{u} 215 #[.slice p 1 cap,.int .i64 0,.int .i64 1,a] w λe b=>e=.returned (.tuple #[])/\b=w:=by go_enter Gh.func215,Tryz.ntmps215;go_wp2;refine wp_loop_rounds 1 ?_;rw[rounds_succ];go_wp2;go_end0;exact⟨rfl,rfl⟩
def a0p(p:Option aF)(cap:Nat)(a:Int)(b:aj)(w:aa):Calls Gh.prog.{u} 169 #[.slice p 1 cap,.int .i64 0,.int .i64 1,.int .i64 a,b] w λe c=>e=.returned (.tuple #[])/\c=w:=by have d:=Wi.{u} p cap b w;go_enter Gh.func169,Tryz.ntmps169;go_wp2_with fail;refine wp_loop_rounds 1 ?_;rw[rounds_succ];go_wp2_with (go_at_call 215;refine d.mono ?_;rintro e f ⟨rfl,rfl⟩);refine bodyPost_ret (results_none rfl _ _ _) rfl ?_;exact⟨rfl,rfl⟩
def W1(w:aa):Calls Gh.prog.{u} 170 #[.int .u64 1] w λe a=>(∃n:Int,e=.returned (.int .i64 n))/\a=w:=by go_enter Gh.func170,Tryz.ntmps170;go_wp2;go_ret;exact⟨⟨_,rfl⟩,rfl⟩
def a3T(p:Option aF)(cap:Nat)(c:aj)(w:aa):Calls Gh.prog.{u} 130 #[.slice p 1 cap,c] w λe b=>e=.returned (.tuple #[])/\b=w:=by have d:=W1.{u} w;have f:=λa=>a0p.{u} p cap a c w;go_enter Gh.func130,Tryz.ntmps130;go_wp2_with (first|(go_at_call 170;refine d.mono ?_;rintro e b ⟨⟨a,rfl⟩,rfl⟩)|(go_at_call 169;refine(f _).mono ?_;rintro e b ⟨rfl,rfl⟩));go_end0;exact⟨rfl,rfl⟩
def Qg(c cap ao L)(a:L.length<=1000000)(w)(d:c<w.heap.size)(f:w.cell? ⟨c,0,none⟩=some (.slice ao L.length cap))(g:mM w ao L):Calls Gh.prog.{u} 129 #[.func (.func 131) #[] #[.pointer (some ⟨c,0,none⟩)]] w λe w'=> ∃v,e=.returned v/\w'.ownsRow w.heap.size 32 2 v L.length (pc L)/\Below w.heap.size w w':=by have h:=OA.{u} c cap ao L a w d f g;go_enter Gh.func129,Tryz.ntmps129;go_wp2_with (go_at_call 168;refine h.mono ?_;rintro e j ⟨v,rfl,b,i⟩);go_ret;exact⟨v,rfl,b,i⟩
def a3U(f cap:Nat)(ao:Option aF)(L:List Pf)(z:L.length=1)(w:aa)(l:f<w.heap.size)(n:w.cell? ⟨f,0,none⟩=some (.slice ao L.length cap))(o:mM w ao L):Calls Gh.prog.{u} 80 #[.func (.func 131) #[] #[.pointer (some ⟨f,0,none⟩)],.func (.func 82) #[] #[]] w λe w'=> ∃b a h,e=.returned (.slice b L.length a)/\h.Perm L/\yV h/\(h=[]\/∃g,b=some ⟨g,0,none⟩/\w.heap.size<=g/\kl w' g 0 h)/\Below w.heap.size w w':=by
 have A:=Qg.{u} f cap ao L a9h w l n o;have F:=ak n;have H:=ak o;clear n o;obtain⟨p,rfl⟩:=b0J.1 z;go_enter Gh.func80,Tryz.ntmps80;go_wp2_with fail;refine A.mono ?_;rintro e i ⟨v,rfl,c,B⟩;obtain⟨_,⟨_,C⟩|⟨g,a,r,rfl,s,d,_,_,_,y⟩⟩:=c
 .cases C
 .have t:=a3T.{u} (some ⟨g,0,none⟩) a (.func (.func 82) #[] #[]) i;have x:kl i g 0 [p]:=λk D=>by
   obtain rfl:k=0:=by simpa using D
   have q:∀j,j<2->i.cell? ⟨g,j,none⟩=(pc [p])[j]? :=λj E=>by rw[show i.cell? ⟨g,j,none⟩=r[j]? by simp[World.cell?,d],<-y,a9X,if_pos (by simpa using E)];simp
   exact⟨q 0 a9j,q 1 a9j⟩
  clear d y;go_wp2_with (go_at_call 130;refine t.mono ?_;rintro e w' ⟨rfl,rfl⟩);go_ret;exact⟨_,a,[p],rfl,List.Perm.refl _,b1q _ _,.inr ⟨g,rfl,s,x⟩,B⟩
end Go.Proofs.q
end
section
namespace Go.Proofs.q
universe u
open Go.RowKit Go.Shelf Go.Sort
attribute [local go_sem ↓] Go.wp_at_zero Go.wp_at_succ
def aK(L:List Rw):List aj:=L.flatMap cI
def lE(L):(aK L).length=L.length*7:=by
 induction L with
 |nil=>rfl
 |cons p r a=>simp only[aK,kJ,iN,cI,gm,ir]at a⊢;omega
def Kn(L r):aK (L++[r])=aK L++cI r:=by simp[aK]
theorem Gh.sG:(Gh.prog.{u}.info? 137).map (λi=>(i.zero,i.size,i.bytes))=some (some (.agg #[.int .u32 0,.int .i64 0,.int .i64 0,.int .i64 0,.int .i64 0,.int .i64 0,.bool false]),7,56):=by kernel_rfl
def tu(r):∀u∈cI r,u.oneCell'=true:=by intro u a;simp[cI]at a;obtain rfl|rfl|rfl|rfl|rfl|rfl|rfl:=a<;>rfl
def uN(a l t m f:Int):Rw:=⟨a,l,t,m,f,0,true⟩
def fJ(p:Pf):Rw:=uN p.addr p.len 0 1 (-1)
def BK(a l t m f w):Calls Gh.prog.{u} 135 #[.agg #[.int .u32 a,.int .i64 l,.int .i64 t,.int .i64 m,.int .i64 f]] w λe w'=>e=.returned (.agg #[.int .u32 a,.int .i64 l,.int .i64 t,.int .i64 m,.int .i64 f,.int .i64 0,.bool true])/\aJ w w':=by go_enter Gh.func135,Tryz.ntmps135;go_wp2;exact bodyPost_ret (v:=.agg #[.int .u32 a,.int .i64 l,.int .i64 t,.int .i64 m,.int .i64 f,.int .i64 0,.bool true]) (by simp[results,Tryz.results135,go_sem]) rfl ⟨rfl,((aJ.refl w).alloc _).alloc _⟩
def Z3(p:Pf)(w):Calls Gh.prog.{u} 83 #[.agg #[.int .u32 p.addr,.int .i64 p.len]] w λe w'=>e=.returned (.agg #[.int .u32 p.addr,.int .i64 p.len,.int .i64 0,.int .i64 1,.int .i64 (-1),.int .i64 0,.bool true])/\aJ w w':=by have c:=aE.new (w.alloc (.cells #[.int .u32 p.addr,.int .i64 p.len] 32)) #[.int .u32 0,.int .i64 0,.int .i64 0,.int .i64 0,.int .i64 0,.int .i64 0,.bool false] 137;simp only[World.size_alloc]at c;have n:=ak c;clear c;go_enter Gh.func83,Tryz.ntmps83;go_wp2_with (go_at_call 135;refine(BK p.addr p.len 0 1 (-1) _).mono ?_;rintro e o ⟨rfl,d⟩;have a:=(af n).dU d;have s0:=a.cell 0;have q:=a.cell 1;have s2:=a.cell 2;have r:=a.cell 3;have s4:=a.cell 4;have s:=a.cell 5;have t:=a.cell 6;have x:=a.frozen 0;have y:=a.frozen 1;have z:=a.frozen 2;have z3:=a.frozen 3;have A:=a.frozen 4;have B:=a.frozen 5;have C:=a.frozen 6);have b:=((((((a.set 0 (.int .u32 p.addr)).set 1 (.int .i64 p.len)).set 2 (.int .i64 0)).set 3 (.int .i64 1)).set 4 (.int .i64 (-1))).set 5 (.int .i64 0)).set 6 (.bool true);have f:=b.cell 0;have g:=b.cell 1;have h:=b.cell 2;have i:=b.cell 3;have j:=b.cell 4;have k:=b.cell 5;have l:=b.cell 6;simp at f g h i j k l;refine bodyPost_ret (v:=.agg #[.int .u32 p.addr,.int .i64 p.len,.int .i64 0,.int .i64 1,.int .i64 (-1),.int .i64 0,.bool true]) (by simp[results,Tryz.results83,go_sem,f,g,h,i,j,k,l]) rfl ⟨rfl,?_⟩;exact((((((((((aJ.refl w).alloc _).alloc _).trans d).setCell a9i _).setCell a9i _).setCell a9i _).setCell a9i _).setCell a9i _).setCell a9i _).setCell a9i _
def pa{w w':aa}{base e d g n cap:Nat}{xs}(h:w.ownsRow base e d (.slice (some ⟨g,0,none⟩) n cap) n xs)(f:w'.heap[g]?=w.heap[g]?):w'.ownsRow base e d (.slice (some ⟨g,0,none⟩) n cap) n xs:=by
 obtain⟨i,⟨a,_⟩|⟨l,o,b,a,c,j,k⟩⟩:=h
 .simp at a
 .simp at a;obtain⟨rfl,rfl⟩:=a;exact⟨i,.inr ⟨g,cap,b,rfl,c,f.trans j,k⟩⟩
def kj{w:aa}{base e b g n cap:Nat}{c}(h:w.ownsRow base e b (.slice (some ⟨g,0,none⟩) n cap) n c):g<w.heap.size:=by
 obtain⟨j,⟨a,_⟩|⟨k,l,d,a,f,i,o⟩⟩:=h
 .simp at a
 .simp at a;obtain⟨rfl,rfl⟩:=a;exact(bz.1 i).1
def a0q{w w' g L}(h:kl w g 0 L)(c:w'.heap[g]?=w.heap[g]?):kl w' g 0 L:=λk b=>by obtain⟨h0,d⟩:=h k b;exact⟨(World.cell?_of_block (w:=w) (a:=⟨g,_,none⟩) c).trans h0,(World.cell?_of_block (w:=w) (a:=⟨g,_,none⟩) c).trans d⟩
def a3X(ao:Option aF)(cap:Nat)(L:List Pf)(w:aa)(h1:L.length=1)(hs:mM w ao L):Calls Gh.prog.{u} 38 #[.slice ao L.length cap] w λe w'=> ∃v n,e=.returned (.agg #[v])/\w'.ownsRow w.heap.size 137 7 v L.length (aK (n.map fJ))/\n.Perm L/\yV n/\Below w.heap.size w w'/\∃a,v=.slice a L.length L.length:=by
 obtain⟨iR,D,Q,F,R⟩:=info_parts Gh.sG.{u};have HS:=ak hs;have H1:=ak h1;have aq:L.length<=20:=a9h
 clear hs h1;have bT:=ak (aE.new w #[.slice none 0 0] 120);go_enter Gh.func38,Tryz.ntmps38;go_wp2_with (first|(at_make;go_loud (refine wpList_make_own _ rfl _ _ 118 rfl w.heap.size 137 iR (.agg #[.int .u32 0,.int .i64 0,.int .i64 0,.int .i64 0,.int .i64 0,.int .i64 0,.bool false]) 7 Gh.underlying118 D Q F _ _ _ L.length rfl rfl a9h (by rw[R];omega) (by unfold maxLen;omega) a9i ?_);intro w2 b s)|(go_at_call 81;refine(a5I _ _ _ _).mono ?_;rintro e w3 ⟨rfl,rfl⟩));simp only[World.size_alloc]at b;have aP:w.heap.size+2<=w2.heap.size:=kj b;have r:Below w.heap.size w w2:=(bZ w _).trans ((Below.refl _ _).grown s a9i a9i);have H:=a3U.{u} w2.heap.size cap ao L (af H1) (w2.alloc (.cells #[.slice ao L.length cap] 23)) a9i (AS _ _ _ rfl rfl) (CZ (af HS) (r.alloc r.size _));refine H.mono ?_;rintro e w3 ⟨ba,ar,n,rfl,c,o,I,t⟩;clear H;have HP:=ak c;have S:=ak o;have J:n.length=L.length:=c.length_eq;have T:=ak I;have f:Below (w.heap.size+2) w2 w3:=((Below.refl _ w2).alloc a9h _).trans (t.mono a9l);have x:w3.ownsRow w.heap.size 137 7 (.slice (some ⟨w.heap.size+1,0,none⟩) 0 L.length) 0 []:=pa b (f.block _ a9h);have U:aE w3 w.heap.size #[.slice none 0 0] 120:=((f.block _ a9h).trans (s.block _ a9i a9i)).trans (af bT);have V:=ak (r.trans (f.mono a9h));have au:w.heap.size+3<=w3.heap.size:=by have:=t.size;simp at this;omega
 have y:=ak J;clear c o I J t f b s r;go_wp2_with fail
 go_loopw [3,13] (λd i wr=> ∃k:Nat,k<=L.length/\i=.int .i64 k/\d=.slice (some ⟨w.heap.size+1,0,none⟩) k L.length/\wr.ownsRow w.heap.size 137 7 (.slice (some ⟨w.heap.size+1,0,none⟩) k L.length) k (aK ((n.take k).map fJ))/\w3.grownBy wr (some (w.heap.size+1))) (λ_ i _=>L.length - (intOf i).toNat)
 case atStart=>exact⟨0,a9h,rfl,rfl,by simpa[aK]using x,World.grownBy.refl _ _⟩
 case round=>
  obtain⟨k,hk,rfl,rfl,h,l⟩:=hrel;by_cases W:k<L.length
  .have j:k<n.length:=by rw[af y];exact W
   obtain h0|⟨g,rfl,X,K⟩:=af T
   .rw[h0]at j;simp at j
   .have av:g≠w.heap.size+1:=by simp at X;omega
    have M:g<w3.heap.size:=CX K a9h;obtain⟨c0,c1⟩:=a0q K (l.block g M a9l) k j;simp only[dC]at c0 c1;have N:aK ((n.take (k+1)).map fJ)=aK ((n.take k).map fJ)++cI (fJ n[k]):=by rw[oA j,nj,List.map_singleton,Kn]
    have Y:=ak N;have z:=ak l;clear N l;generalize n[k]=E at*;have j0:(0:Int)<=(k:Int):=a9h
    have j1:(k:Int)<(L.length:Int):=a9h
    go_wp2_with (first|(go_at_call 83;refine(Z3 E _).mono ?_;rintro e Z ⟨rfl,O⟩;have q:=((aJ.refl wr).alloc _).trans O;have A:=pa h (q.below.block _ (kj h));have ab:=ak q;clear O q)|(at_builtin;go_loud (refine wpList_append_fits _ rfl (.tmp 17) (.tmp 20) 118 rfl w.heap.size 137 iR 7 Gh.underlying118 D F (w.heap.size+1) k L.length _ rfl (A.alloc _) ⟨Z.heap.size,0,none⟩ 1 1 (cI (fJ E)) rfl rfl (by exact World.news_of_block (heap_alloc_new Z _)) (tu _) a9h ?_;intro w5 B ad)))
    go_roundw
    case rel=>refine⟨k+1,a9h,by go_num,rfl,by rw[af Y];exact B,?_⟩;exact du (af z) (du (k7 (af ab).grownBy) (du (k7 (World.grownBy_alloc Z _ none)) ad))
    case measure=>simp[intOf];omega
  .have ae:k=L.length:=a9h
   subst ae;have C:aE wr w.heap.size #[.slice none 0 0] 120:=(l.block _ a9h a9i).trans U;have s0:=C.cell 0;have z0:=C.frozen 0;have P:=ak h;have z:=ak l;clear h l;go_wp2;have ap:=C.set 0 (.slice (some ⟨w.heap.size+1,0,none⟩) L.length L.length);have t0:=ap.cell 0;simp at t0;refine bodyPost_ret (v:=.agg #[.slice (some ⟨w.heap.size+1,0,none⟩) L.length L.length]) (by simp[results,Tryz.results38,go_sem,t0]) rfl ⟨_,n,rfl,?_,af HP,af S,?_,_,rfl⟩
   .have:=af P;rw[<-af y,pN]at this;rw[<-af y];exact pa this (Below.heap_setCell _ _ _ _ a9i)
   .exact((af V).trans ((Below.refl _ _).grown (af z) a9h a9i)).setCell (p:=⟨w.heap.size,0,none⟩) (az _) _
section
variable{P:aA}{f:bW}{fn:Func}
def a2R(c:P.funcs[f]?=some fn)(b:(fn.name== "runtime.NumGoroutine")=false)(d:fn.body.isNone=true)(e:Extern.findNext fn=none)(g:Extern.find fn=some (Extern.Atomic.loadT .ptr)){a p w}(h:w.cell? a=some (.pointer p)):(callFunc f #[.pointer (some a)]).run P w=.ok (.value (.pointer p)) w:=by rw[run_callFunc_extern c b d e g];change (Sem.run P (do Extern.Atomic.read .ptr (<-asAddr (.pointer (some a)))) w).andThen _=_;simp[Extern.Atomic.read,asAddr,h,Result.andThen]
def a2S(c:P.funcs[f]?=some fn)(b:(fn.name== "runtime.NumGoroutine")=false)(d:fn.body.isNone=true)(e:Extern.findNext fn=none)(g:Extern.find fn=some Extern.Atomic.storeT){a p u w}(h:w.cell? a=some u)(i:w.frozen? a=false):(callFunc f #[.pointer (some a),.pointer p]).run P w=.ok (.value (.tuple #[])) (w.setCell a (.pointer p)):=by
 rw[run_callFunc_extern c b d e g];change (Sem.run P (do
  store (<-asAddr (.pointer (some a))) (.pointer p) .atomic
  pure Extern.Atomic.none_) w).andThen _=_
 simp[asAddr,h,i,run_store P w a (.pointer p) .atomic rfl,Result.andThen,Extern.Atomic.none_]
def a2T{src dst t}(e:P.underlying src=some .unsafePointer)(g:P.underlying dst=some (.pointer t))(b:(P.info? t).map (λi=>decide (i.size=0))=some false){B cs w}(a:liesAt P P.depth t (cs.size / P.cellsOf t) 0 t 1=true)(d:aE w B cs t):(convert src dst (.pointer (some ⟨B,0,none⟩))).run P w=.ok (.pointer (some ⟨B,0,none⟩)) w:=by
 obtain⟨i,h,j⟩:=gn.1 b;have c:w.shape? B=some (t,cs.size):=by unfold aE at d;simp[World.shape?,d]
 simp[convert,run_underlying e,run_underlying g,Conv.unsafePointer,Conv.seenAt,viewAt,c,variablesAt,a,sizeOf,typeInfo,h]
end
def we(R i V a u w)(c:w.cell? ⟨R,i,none⟩=some u)(d:w.frozen? ⟨R,i,none⟩=false)(b:aE w V #[a] 122):Calls Gh.prog.{u} 37 #[.pointer (some ⟨R,i,none⟩),.pointer (some ⟨V,0,none⟩)] w λe g=>e=.returned (.tuple #[])/\g=w.setCell ⟨R,i,none⟩ (.pointer (some ⟨V,0,none⟩)):=by have h:=run_convert_to_unsafe (P:=Gh.prog.{u}) (src:=54) (dst:=112) Gh.underlying54 Gh.underlying112 a9k ((b.cell 0).trans (show _=some a from rfl));have j:=a2S (P:=Gh.prog.{u}) Gh.func79 a9k a9k a9k a9k (p:=some ⟨V,0,none⟩) c d;clear b;go_enter Gh.func37,Tryz.ntmps37;go_wp2;go_end0;exact⟨rfl,rfl⟩
def vn(R i V a w)(c:w.cell? ⟨R,i,none⟩=some (.pointer (some ⟨V,0,none⟩)))(b:aE w V #[a] 122):Calls Gh.prog.{u} 49 #[.pointer (some ⟨R,i,none⟩)] w λe d=>e=.returned (.pointer (some ⟨V,0,none⟩))/\d=w:=by have g:=a2T (P:=Gh.prog.{u}) (src:=112) (dst:=54) Gh.underlying112 Gh.underlying54 a9k (cs:=#[a]) a9k b;have h:=a2R (P:=Gh.prog.{u}) Gh.func101 a9k a9k a9k a9k c;clear b;go_enter Gh.func49,Tryz.ntmps49;go_wp2;go_ret;exact⟨rfl,rfl⟩
def LR(R V b cv d g w)(a:aE w R #[cv,.int .i32 d,.int .u32 g,.pointer (some ⟨V,0,none⟩)] 116)(c:aE w V #[b] 122):Calls Gh.prog.{u} 17 #[.pointer (some ⟨R,0,none⟩)] w λe h=>e=.returned (.pointer (some ⟨V,0,none⟩))/\h=w:=by have i:=vn.{u} R 3 V b w ((a.cell 3).trans rfl) c;have j:=(a.cell 0).trans (show _=some cv from rfl);clear a c;go_enter Gh.func17,Tryz.ntmps17;go_wp2_with (go_at_call 49;refine i.mono ?_;rintro e k ⟨rfl,rfl⟩);go_ret;exact⟨rfl,rfl⟩
def Xo(V:Nat)(ao:Option aF)(cap:Nat)(r:Rw)(w:aa)(g:aE w V #[.slice ao 1 cap] 122)(c:(0<=r.len/\r.len<=32)/\ka 167838211 r=true)(h:gy w ao [r]):Calls Gh.prog.{u} 18 #[.pointer (some ⟨V,0,none⟩),.int .u32 167838211] w λe w'=>e=.returned (.tuple #[.agg (pm r),.nilIface])/\Below w.heap.size w w':=by have q:=ak (aE.new w rB 52);have s:=((g.alloc (.cells rB 52)).cell 0).trans (show _=some (.slice ao 1 cap)from rfl);simp only[rB]at s;have hF:=TV.{u} ao cap r (w.alloc (.cells rB 52)) c (ku h (bZ _ _));rw[show so [r] 167838211=some r by simp[so,c.2]]at hF;clear h c g;simp only[uK,rB,pm]at hF;go_enter Gh.func18,Tryz.ntmps18;go_wp2_with (go_at_call 50;refine hF.mono ?_;rintro e t ⟨rfl,d⟩;have a:=(af q).below d a9i;simp only[rB]at a;have s0:=(a.alloc (.cells #[.int .u32 r.addr,.int .i64 r.len,.int .i64 r.tag,.int .i64 r.met,.int .i64 r.an] 52)).cell 0;have x:=(a.alloc (.cells #[.int .u32 r.addr,.int .i64 r.len,.int .i64 r.tag,.int .i64 r.met,.int .i64 r.an] 52)).frozen 0;have y:=(a.alloc (.cells #[.int .u32 r.addr,.int .i64 r.len,.int .i64 r.tag,.int .i64 r.met,.int .i64 r.an] 52)).cell 1;have z:=(a.alloc (.cells #[.int .u32 r.addr,.int .i64 r.len,.int .i64 r.tag,.int .i64 r.met,.int .i64 r.an] 52)).frozen 1;have s2:=(a.alloc (.cells #[.int .u32 r.addr,.int .i64 r.len,.int .i64 r.tag,.int .i64 r.met,.int .i64 r.an] 52)).cell 2;have A:=(a.alloc (.cells #[.int .u32 r.addr,.int .i64 r.len,.int .i64 r.tag,.int .i64 r.met,.int .i64 r.an] 52)).frozen 2;have B:=(a.alloc (.cells #[.int .u32 r.addr,.int .i64 r.len,.int .i64 r.tag,.int .i64 r.met,.int .i64 r.an] 52)).cell 3;have z3:=(a.alloc (.cells #[.int .u32 r.addr,.int .i64 r.len,.int .i64 r.tag,.int .i64 r.met,.int .i64 r.an] 52)).frozen 3;have s4:=(a.alloc (.cells #[.int .u32 r.addr,.int .i64 r.len,.int .i64 r.tag,.int .i64 r.met,.int .i64 r.an] 52)).cell 4;have C:=(a.alloc (.cells #[.int .u32 r.addr,.int .i64 r.len,.int .i64 r.tag,.int .i64 r.met,.int .i64 r.an] 52)).frozen 4;have i:=ak d;clear d);have b:=((((((a.alloc (.cells #[.int .u32 r.addr,.int .i64 r.len,.int .i64 r.tag,.int .i64 r.met,.int .i64 r.an] 52)).set 0 (.int .u32 r.addr)).set 1 (.int .i64 r.len)).set 2 (.int .i64 r.tag)).set 3 (.int .i64 r.met)).set 4 (.int .i64 r.an));have j:=b.cell 0;have k:=b.cell 1;have l:=b.cell 2;have n:=b.cell 3;have o:=b.cell 4;simp at j k l n o;refine bodyPost_ret (v:=.tuple #[.agg #[.int .u32 r.addr,.int .i64 r.len,.int .i64 r.tag,.int .i64 r.met,.int .i64 r.an],.nilIface]) (by simp[results,Tryz.results18,go_sem,j,k,l,n,o]) rfl ⟨rfl,?_⟩;exact(((((((bZ w _).trans ((af i).mono a9i)).alloc (by have:=(af i).size;simp at this;omega) _).setCell (p:=⟨w.heap.size,0,none⟩) (az _) _).setCell (p:=⟨w.heap.size,1,none⟩) (az _) _).setCell (p:=⟨w.heap.size,2,none⟩) (az _) _).setCell (p:=⟨w.heap.size,3,none⟩) (az _) _).setCell (p:=⟨w.heap.size,4,none⟩) (az _) _
structure dK (w:aa) (base R:Nat) (aH:List Int) (L:List Rw) (V:Nat) (cv rv:aj):Prop where
 blk:aE w R #[cv,.int .i32 0,.int .u32 0,.pointer (some ⟨V,0,none⟩)] 116
 view:aE w V #[rv] 122
 aH:w.ownsRow base 3 1 cv aH.length (cW aH)
 rows:w.ownsRow base 137 7 rv L.length (aK L)
 new:base<=R/\base<=V
def cP{w w'}{base e d n B:Nat}{v xs}(h:w.ownsRow base e d v n xs)(j:Below B w w')(k:w.heap.size<=B):w'.ownsRow base e d v n xs:=by
 obtain⟨f,⟨a,h0⟩|⟨g,l,b,a,c,i,o⟩⟩:=h
 .exact⟨f,.inl ⟨a,h0⟩⟩
 .exact⟨f,.inr ⟨g,l,b,a,c,(j.block g (bL (bz.1 i).1 k)).trans i,o⟩⟩
def dY{w:aa}{base a e f n:Nat}{v xs}(h:w.ownsRow base e f v n xs)(i:a<=base):w.ownsRow a e f v n xs:=by
 obtain⟨g,⟨b,h0⟩|⟨j,k,c,b,d,l⟩⟩:=h
 .exact⟨g,.inl ⟨b,h0⟩⟩
 .exact⟨g,.inr ⟨j,k,c,b,dt i d,l⟩⟩
def dH{w:aa}{base e b n:Nat}{v c}(h:w.ownsRow base e b v n c):∃d cap,v=.slice d n cap:=by
 obtain⟨_,⟨a,h0⟩|⟨g,i,f,a,_⟩⟩:=h
 .exact⟨_,_,by rw[a,h0]⟩
 .exact⟨_,_,a⟩
def cz{w}{base e g n B i:Nat}{v u xs cs t}(h:w.ownsRow base e g v n xs)(j:aE w B cs t)(b:t≠e):(w.setCell ⟨B,i,none⟩ u).ownsRow base e g v n xs:=by
 obtain⟨k,⟨c,h0⟩|⟨l,o,d,c,f,a,p⟩⟩:=h
 .exact⟨k,.inl ⟨c,h0⟩⟩
 .refine⟨k,.inr ⟨l,o,d,c,f,(Below.heap_setCell _ _ _ _ ?_).trans a,p⟩⟩;intro e;subst e;unfold aE at j;rw[j]at a;simp at a;exact b a.2
def zv{w w' B v}(h:jO w v)(f:Below B w w')(g:w.heap.size<=B):jO w' v:=λa n c e=>by obtain⟨b,d,i⟩:=h a n c e;exact⟨b,(f.block _ (bL (bz.1 d).1 g)).trans d,i⟩
def a2y{w B i v u cs t}(h:jO w v)(g:aE w B cs t)(d:t≠3):jO (w.setCell ⟨B,i,none⟩ u) v:=λa n c e=>by obtain⟨f,b,j⟩:=h a n c e;refine⟨f,(Below.heap_setCell _ _ _ _ λe=>?_).trans b,j⟩;unfold aE at g;rw[e]at b;rw[g]at b;simp at b;exact d b.2
def IB(ac ao:Option aF)(r o:Nat)(b:List Int)(d:List Pf)(w:aa)(hb:(jy b&&o9 d)=true)(I:yW d)(z:d.length=1)(ad:d.length<=o)(y:ac=none->b.length=0/\r=0)(A:fO w ac b)(B:mM w ao d):Calls Gh.prog.{u} 11 #[.agg #[.slice ac b.length r,.slice ao d.length o]] w λe J=> ∃R V cv rv K,e=.returned (.tuple #[.pointer (some ⟨R,0,none⟩),.nilIface])/\dK J w.heap.size R b (K.map fJ) V cv rv/\K.Perm d/\yV K/\Below w.heap.size w J/\(0<b.length\/ac=none->jO J cv)/\∃a,rv=.slice a d.length d.length:=by
 obtain⟨i,j⟩:jy b=true/\o9 d=true:=by simpa using hb
 have h8:b.length<=8:=by simp[jy]at i;exact i.1
 have ae:=ak z;have hC:=OE.{u} ac b.length r b (w.alloc (.cells #[.slice ac b.length r,.slice ao d.length o] 25)) rfl (vL A (bZ _ _));have hO:=OF.{u} ao o d (w.alloc (.cells #[.slice ac b.length r,.slice ao d.length o] 25)) I z j ad (CZ B (bZ _ _));rw[i]at hC;have bC:=ak (aE.new w #[.slice ac b.length r,.slice ao d.length o] 25);have ap:=ak A;have aq:=ak B;have L:=ak y;clear hb i j I A B y z;go_enter Gh.func11,Tryz.ntmps11;go_wp2_with (first|(go_at_call 34;refine hC.mono ?_;rintro e w1 ⟨rfl,rfl⟩)|(go_at_call 35;refine hO.mono ?_;rintro e w1 ⟨rfl,i⟩;have s:=(af bC).below i a9i;have c0:=(s.cell 0).trans (show _=some (.slice ac b.length r)from rfl);have k:=ak ((bZ w (.cells #[.slice ac b.length r,.slice ao d.length o] 25)).trans (i.mono a9i));clear i)|(go_at_call 36;refine(PX ac b.length r b w1 rfl h8 (af L) (vL (af ap) (af k))).mono ?_;rintro e t ⟨cv,rfl,C,j,M⟩;have N:=ak M;clear M;obtain⟨f,g,rfl⟩:=dH C;have D:=s.below j s.lt;have E:=ak j;have O:=ak C;clear j C));have F:=aE.new t #[.slice f b.length g,.int .i32 0,.int .u32 0,.pointer none] 116;have P:=D.alloc (.cells #[.slice f b.length g,.int .i32 0,.int .u32 0,.pointer none] 116);have H:=ak ((af k).trans (((af E).trans ((Below.refl _ t).alloc (by have:=(af E).size;omega) (.cells #[.slice f b.length g,.int .i32 0,.int .u32 0,.pointer none] 116))).mono (af k).size));have ar:=ak (dY (cP (af O) ((Below.refl _ t).alloc (az _) (.cells #[.slice f b.length g,.int .i32 0,.int .u32 0,.pointer none] 116)) (az _)) (af k).size);have Q:=ak (λh=>zv (af N h) ((Below.refl _ t).alloc (az _) (.cells #[.slice f b.length g,.int .i32 0,.int .u32 0,.pointer none] 116)) (az _));clear N;have au:t.heap.size<(t.alloc (.cells #[.slice f b.length g,.int .i32 0,.int .u32 0,.pointer none] 116)).heap.size:=a9i
 have ba:w.heap.size<t.heap.size:=D.lt;generalize t.heap.size=R at*;generalize t.alloc (.cells #[.slice f b.length g,.int .i32 0,.int .u32 0,.pointer none] 116)=W at*;clear s D c0 hC hO k E O;have S:R≠w.heap.size:=a9h
 have q1:=(P.cell 1).trans (show _=some (.slice ao d.length o)from rfl);have r0:=(F.cell 0).trans (show _=some (.slice f b.length g)from rfl);have r3:=(F.cell 3).trans (show _=some (.pointer none)from rfl)
 go_region_held3 (λJ=>J.cell? ⟨w.heap.size,1,none⟩=some (.slice ao d.length o)) (first|go_keep|exact((World.cell?_setCell_far _ ⟨R,3,none⟩ ⟨w.heap.size,1,none⟩ _ S).trans (World.cell?_alloc_some _ _ _ (by rw[T];rfl))).trans T)
  (first|(go_at_call 38;refine(a3X ao o d _ (af ae) (CZ (af aq) ((af H).trans ((Below.refl _ W).drew)))).mono ?_;rintro e q ⟨rv,K,rfl,U,l,n,v,X,rfl⟩;have c:=F.below (show Below W.heap.size W q from Below.trans ((Below.refl _ W).drew) v) au;have T:=(v.cell (p:=⟨w.heap.size,1,none⟩) P.lt).trans q1;have bb:=(c.cell 0).trans (show _=some (.slice f b.length g)from rfl);have bc:=(c.cell 3).trans (show _=some (.pointer none)from rfl);have av:=ak U;have Y:=ak l;have Z:=ak n;have x:=ak (show Below W.heap.size W q from Below.trans ((Below.refl _ W).drew) v);clear U l n v)|(go_at_call 37;refine(we R 3 q.heap.size (.slice X d.length d.length) (.pointer none) _ (by rw[(c.alloc _).cell];rfl) ((c.alloc _).frozen 3) (aE.new q _ _)).mono ?_;rintro e w4 ⟨rfl,rfl⟩))
 all_goals go_wp2
 all_goals go_ret2
 all_goals
  have aP:=(af Y).length_eq;have bd:W.heap.size<=q.heap.size:=(af x).size;have ab:w.heap.size<=W.heap.size:=(af H).size;refine⟨R,q.heap.size,.slice f b.length g,.slice X d.length d.length,K,rfl,⟨?_,?_,?_,?_,⟨a9h,a9h⟩⟩,af Y,af Z,?_,λh=>?_,_,rfl⟩
  .exact(c.alloc _).set 3 _
  .exact(aE.new q _ _).other (by show R≠_;omega) _
  .exact cz (cP (cP (af ar) (af x) (az _)) ((Below.refl _ q).alloc (az _) _) (az _)) (c.alloc _) a9j
  .have h1:=dY (af av) ab;rw[b0A,aP];exact cz (cP h1 ((Below.refl _ q).alloc (az _) _) (az _)) (c.alloc _) a9j
  .exact(((af H).trans ((af x).mono ab)).alloc a9h _).setCell (p:=⟨R,3,none⟩) (by show _<=R;omega) _
  .exact a2y (zv (zv (af Q h) (af x) (az _)) ((Below.refl _ q).alloc (az _) _) (az _)) (c.alloc _) a9j
def Yf(ac ao:Option aF)(f g:Nat)(b:List Int)(a:List Pf)(w:aa)(p:(jy b&&o9 a)=true)(h:yW a)(i:a.length=1)(j:a.length<=g)(c:ac=none->b.length=0/\f=0)(k:fO w ac b)(l:mM w ao a):Calls Gh.prog.{u} 11 #[.agg #[.slice ac b.length f,.slice ao a.length g]] w λe w'=> ∃R V n o d,e=.returned (.tuple #[.pointer (some ⟨R,0,none⟩),.nilIface])/\dK w' w.heap.size R b (d.map fJ) V n o/\d.Perm a/\yV d/\Below w.heap.size w w':=
 (IB ac ao f g b a w p h i j c k l).mono λ_ _ ⟨R,V,n,o,d,h1,h2,h3,h4,h5,_⟩=>⟨R,V,n,o,d,h1,h2,h3,h4,h5⟩
def tq{w base n cap ao L}(h:w.ownsRow base 137 7 (.slice ao n cap) n (aK L)):gy w ao L:=by
 obtain⟨d,⟨a,h0⟩|⟨g,c,e,a,_,o,_,_,_,f⟩⟩:=h
 .subst h0;rw[lE]at d;exact .inl (gj a9h)
 .simp at a;obtain⟨rfl,rfl⟩:=a;rw[lE]at d;have p:L.length=n:=a9h
  refine .inr ⟨g,0,rfl,λk l=>?_⟩;have b:∀j,j<n*7->w.cell? ⟨g,j,none⟩=(aK L)[j]? :=λj q=>by rw[show w.cell? ⟨g,j,none⟩=e[j]? by simp[World.cell?,o],<-f,a9X,if_pos q];simp
  have a:∀i,i<7->(aK L)[k*7+i]?=(cI L[k])[i]? :=λi u=>by
   clear b f d p;induction L generalizing k with
   |nil=>simp at l
   |cons r R s=>
    cases k with
    |zero=>simp only[b1P,dC,aK,kJ,a9Q];rw[a9S (by simp[cI];omega)]
    |succ k=>have:=s k (by simpa using l);simp only[aK,kJ,b0K]at this⊢;rw[a9P (by simp[cI];omega),<-this];congr 1;simp[cI];omega
  have t:k*7+6<n*7:=a9h
  simp only[dC];refine⟨?_,?_,?_,?_,?_,?_,?_⟩
  .have:=a 0 a9j;rw[oB]at this;rw[b _ a9h,this];rfl
  .rw[b _ a9h,a 1 a9j];rfl
  .rw[b _ a9h,a 2 a9j];rfl
  .rw[b _ a9h,a 3 a9j];rfl
  .rw[b _ a9h,a 4 a9j];rfl
  .rw[b _ a9h,a 5 a9j];rfl
  .rw[b _ a9h,a 6 a9j];rfl
def tG:Pf:=⟨167772160,8⟩
def O9(w):Calls Gh.prog.{u} 10 #[] w λe w'=>e=.returned (.bool true)/\Below w.heap.size w w':=by
 have d:(jy [1]&&o9 [tG])=true:=a9j
 have A:=ak (((aE.new w #[.int .u32 167772160,.int .i64 8] 32).alloc (.cells #[.int .i64 1] 3)).alloc (.cells #[.int .u32 167772160,.int .i64 8] 32));have r:=(aE.new (w.alloc (.cells #[.int .u32 167772160,.int .i64 8] 32)) #[.int .i64 1] 3).alloc (.cells #[.int .u32 167772160,.int .i64 8] 32);have q:=aE.new ((w.alloc (.cells #[.int .u32 167772160,.int .i64 8] 32)).alloc (.cells #[.int .i64 1] 3)) #[.int .u32 167772160,.int .i64 8] 32;have s:(((w.alloc (.cells #[.int .u32 167772160,.int .i64 8] 32)).alloc (.cells #[.int .i64 1] 3)).alloc (.cells #[.int .u32 167772160,.int .i64 8] 32)).heap.size=w.heap.size+3:=a9i
 have l:=ak ((((aJ.refl w).alloc (.cells #[.int .u32 167772160,.int .i64 8] 32)).alloc (.cells #[.int .i64 1] 3)).alloc (.cells #[.int .u32 167772160,.int .i64 8] 32)).below;simp only[World.size_alloc]at r q;have c:qv (((w.alloc (.cells #[.int .u32 167772160,.int .i64 8] 32)).alloc (.cells #[.int .i64 1] 3)).alloc (.cells #[.int .u32 167772160,.int .i64 8] 32)) (w.heap.size+1) 0 [1]:=λk t=>by
  obtain rfl:k=0:=by simpa using t
  exact r.cell 0
 have n:kl (((w.alloc (.cells #[.int .u32 167772160,.int .i64 8] 32)).alloc (.cells #[.int .i64 1] 3)).alloc (.cells #[.int .u32 167772160,.int .i64 8] 32)) (w.heap.size+1+1) 0 [tG]:=λk t=>by
  obtain rfl:k=0:=by simpa using t
  exact⟨q.cell 0,q.cell 1⟩
 have v:=Yf.{u} (some ⟨w.heap.size+1,0,none⟩) (some ⟨w.heap.size+1+1,0,none⟩) 1 1 [1] [tG] _ d (by intro p x;simp at x;subst x;decide) rfl (az _) (by intro h;cases h) (.inr ⟨_,_,rfl,c⟩) (.inr ⟨_,_,rfl,n⟩);simp only[gm,ir,dC]at v;clear c n r q;go_enter Gh.func10,Tryz.ntmps10;go_wp2_with fail;refine v.mono ?_;rintro e y ⟨R,V,H,I,B,rfl,f,a,_,g⟩;obtain rfl:B=[tG]:=List.perm_singleton.1 a;obtain⟨C,D,rfl⟩:=dH f.rows;simp only[dq,lH,gm,ir,dC]at f;have E:=LR.{u} R V _ _ 0 0 y f.blk f.view;have z:=Xo.{u} V C D (fJ tG) y f.view a9j (tq f.rows);simp only[pm,fJ,uN,tG]at z;have b:=(af A).below g (by rw[s];omega);have J:=(b.cell 0).trans (show _=some (.int .u32 167772160)from rfl);have c1:=(b.cell 1).trans (show _=some (.int .i64 8)from rfl);have i:=ak ((af l).trans (g.mono (af l).size));clear f g v a;go_wp2_with (first|(go_at_call 17;refine E.mono ?_;rintro e F ⟨rfl,rfl⟩)|(go_at_call 18;refine z.mono ?_;rintro e F ⟨rfl,j⟩;have o:=(b.below j b.lt).alloc (.cells #[.int .u32 167772160,.int .i64 8,.int .i64 0,.int .i64 1,.int .i64 (-1)] 52);have K:=(o.cell 0).trans (show _=some (.int .u32 167772160)from rfl);have L:=(o.cell 1).trans (show _=some (.int .i64 8)from rfl)));go_ret;exact⟨rfl,((af i).trans (j.mono (af i).size)).alloc (by have:=(af i).size;have:=j.size;omega) _⟩
end Go.Proofs.q
end
