import Derived.Laws.AppendOwn
import Derived.Test.YtdnpeefnobjfaaaGreatDoorK33
import Derived.Test.YtdnpeefnobjfaaaGreatDoorK42
import Derived.Test.YtdnpeefnobjfaaaGreatDoorK43
set_option maxRecDepth 100000
set_option maxHeartbeats 4000000
set_option linter.all false
section
namespace Go.Proofs.Each
open Go.Conc Go.Mir
structure na (C:aI) (D:Nat->Prop) (aj:Nat->Nat) (y:aa) (b0 ao:Option ap) (len cap np:Nat) (vals:Nat->List af):Prop where
 P:C.P=⟨Tryz.progTables,Tryz.funcs⟩
 tr:C.tr=260
 tt:C.tt=46
 ge:C.B0<=C.r/\C.B0<=C.tb/\C.B0<=C.dc/\C.r≠C.tb
 heap:dh Tryz.progTables.globals.size D aj y C.v0
 lo:∀b,D b->aj b<C.B0/\¬C.SB (aj b)
 os:C.v0.os=y.os
 low:∀b,b<Tryz.progTables.globals.size+1->D b/\aj b=b
 all:cO Tryz.progTables.globals.size y
 thin:∀(b:Nat) o,y.heap[b]?=some o->thin o
 args:∀g,aQ D aj g->(.slice ao len cap:af)=ak g (.slice b0 len cap)
 calls:∀i,i<C.n->∀τ,Calls ⟨Tryz.progTables,Gh.funcs.{1}⟩ 43 #[.int .i64 i,.agg #[.slice b0 len cap]] (re (fL D y) τ 0) fun| .returned x,w'=>w'.ownsRow y.heap.size 64 2 x np (vals i)|_,_=>False
 flat:∀i,∀u∈vals i,∀g,ak g u=u
def ml(C:aI)(np:Nat)(e:List af)(O:Nat->Prop)(v:aa)(x:af):Prop:=v.ownsRow C.B0 64 2 x np e/\(∀a m b,x=.slice (some a) m b->O a.block)/\(∀c,c<C.B0->v.heap[c]?=C.v0.heap[c]?)/\∃S:Nat->Prop,iw Tryz.progTables.globals.size S v/\(∀c,S c->(c<C.B0/\¬C.SB c)\/O c)/\∀a m b,x=.slice (some a) m b->S a.block
def sU{C np k O l v v' x}(h:ml C np k O v x)(o:∀c,O c->v'.heap[c]?=v.heap[c]?)(b:∀c,c<C.B0->v'.heap[c]?=C.v0.heap[c]?)(p:∀c,O c->l c):ml C np k l v' x:=by
 obtain⟨r,s,u,S,w,t,z⟩:=h;refine⟨⟨r.1,?_⟩,λa m B e=>p _ (s a m B e),b,S,w.keep λc f=>?_,λc f=>(t c f).imp id (p c),z⟩
 .rcases r.2 with q1|⟨g,cap,j,q1,E,q3,F⟩
  .exact .inl q1
  .exact .inr ⟨g,cap,j,q1,E,by rw[o g (s _ _ _ q1)];exact q3,F⟩
 .rcases t c f with q|q
  .rw[b c q.1,u c q.1]
  .exact o c q
def Hc{C np e O v x}(h:ml C np e O v x):∃a m m',x=.slice a m m':=by
 obtain⟨b,_⟩|⟨g,cap,f,b,_⟩:=h.1.2
 .exact⟨_,_,_,b⟩
 .exact⟨_,_,_,b⟩
def QN:∃c,Tryz.f43.body=some c:=⟨_,rfl⟩
def EK:Tryz.f43.results=#[.tmp 4]:=Tryz.results43
def QO:Gh.funcs.{1}[43]?=some Tryz.f43:=Gh.func43.{1}
theorem EJ:Tryz.funcs[43]?=some Tryz.f43:=by kernel_rfl
theorem i43:Tryz.progTables.inits.idxOf? 43=none:=by kernel_rfl
def HJ{T F' main f fn}{k:Tmp}(e:F'[f]?=some fn)(a:fn.results=#[.tmp k])(o:T.inits.idxOf? f=none){b c cs}(h:b.fn=f)(g:b.mode=.returning)(j:b.defers=[])(l:b.kind=.normal)(v):stepG ⟨T,F'⟩ main (an b (c::cs)) v=.go (an (c.finish (b.tmps.getD k undef)) cs) v #[]:=by
 rw[j4 (by rw[g];simp)];unfold unwind;rw[j];dsimp only;rw[g];dsimp only;rw[h,e];dsimp only;have m:(results fn b.tmps).runT ⟨T,F'⟩ v #[]=(.ok (b.tmps.getD k undef) v,#[]):=by
  refine km ?_ ?_
  .rw[Sem.runT_fst,results_tmp a]
  .exact events_results_tmp a _ _
 rw[m];simp only[doReturn,l,GStep.after];simp[seen,an]
def Ab:∀q,kw q->∃a s,Gh.funcs.{1}[q]?=some a/\a.body=some (.refuse s):=by
 intro q b;obtain rfl|rfl|rfl|rfl:=b
 .exact⟨_, "-",Gh.funcU106.{1},by unfold Gh.f106;rw[Gh.AU];rfl⟩
 .exact⟨_, "-",Gh.funcU144.{1},by unfold Gh.f144;rw[Gh.AU];rfl⟩
 .exact⟨_, "-",Gh.funcU145.{1},by unfold Gh.f145;rw[Gh.AU];rfl⟩
 .exact⟨_, "-",Gh.func154.{1},rfl⟩
section
variable{C:aI}{D:Nat->Prop}{aj:Nat->Nat}{y:aa}{b0 ao:Option ap}{len cap np:Nat}{vals:Nat->List af}{i c n:Nat}{A:i7}{O:Nat->Prop}{d:Nat}{v:aa}
def Bx(ao:Option ap)(len cap n:Nat)(v:aa):Prop:=v.heap[n]?=some (.cells #[.slice ao len cap] 120)
def a2o(J:na C D aj y b0 ao len cap np vals)(hi:i<C.n){V x1 W x3 Y x7 Z l}(hv:C.Shape v)(hO:C.Own O v)(hn:O n)(t:Bx ao len cap n v)(ab:∀O v x,C.Shape v->C.Own O v->O n->Bx ao len cap n v->ml C np (vals i) O v x->C.fh i A O d (rg C.r i c C.dc ao len cap n V x1 W x3 Y (.int .i64 i) (.agg #[.slice ao len cap]) x Z l) v):C.fh i A O d (rg C.r i c C.dc ao len cap n V x1 W x3 Y (.int .i64 i) (.agg #[.slice ao len cap]) x7 Z (7::l)) v:=by
 refine iq rfl λv' B=>⟨_,#[],by rw[J.P];exact Zz C.r i c C.dc ao len cap n V x1 W x3 Y x7 Z l v',by simp,?_⟩;generalize av:(rg C.r i c C.dc ao len cap n V x1 W x3 Y (.int .i64 i) (.agg #[.slice ao len cap]) x7 Z (7::l)).frame=cf;obtain⟨cc,N⟩:=QN;have bo:C.r<v'.heap.size:=by obtain⟨_,_,_,_,h1⟩:=B.shape.rb;exact cP h1
 have hh:dh Tryz.progTables.globals.size D aj y v':=dh.mk J.heap.lt (λb t=>by have:=(J.lo b t).1;have:=J.ge.1;omega) J.heap.inj (λf aP b t=>by rw[B.shape.old _ (J.lo b t).1];exact J.heap.obj f aP b t) J.heap.ok;have ad:=a3K (T:=Tryz.progTables) (F:=Gh.funcs.{1}) (F':=Tryz.funcs) (q:=43) (k:=4) (v:=v') (rargs:=#[.int .i64 i,.agg #[.slice ao len cap]]) (args:=#[.int .i64 i,.agg #[.slice b0 len cap]]) (Rr:=λx w'=>w'.ownsRow y.heap.size 64 2 x np (vals i))
  g9.{1} sO.{1} QO EJ N EK hh ((congrArg Prod.fst B.shape.os).trans J.os) J.low J.all J.thin (λg hg=>by have:=J.args g hg;simp[this]) (λx w τ d h=>h) (J.calls i hi) [cf,bf]
 obtain⟨ae,hR⟩:=ad;have ba:C.Own O v':=λc S=>by have:=hO c S;have:=B.size;exact⟨by omega,by omega,by omega,by omega,by omega⟩
 refine a2t (cs:=[cf,bf]) (X:=λc=>c=n) (Q:=Bx ao len cap n) J.P ⟨J.ge.1,J.ge.2.1⟩ lB.{1} g9.{1} cT.{1} Ab (λfr gs w h=>h.2.2.1) (λv v' t hk=>?_) ?_ ae D aj v' _ [cf,bf] O hR ?_ B.shape ba ?_
 .unfold Bx at t⊢;rw[hk n rfl];exact t
 .intro fr gs w D' z v1 rf bb O1 hS bd p bl ag al;obtain⟨rfl,h1,h2,h3,h4,E⟩:=hS;obtain⟨x',aq,R⟩:=bd;have s:=aN R.heap 0;generalize (λb=> @ite _ (D' b) (Classical.propDecidable _) (z b) (v1.heap.size+0+b))=g at s;have e0:=R.aZ g s;have ar:bb=[cf,bf]:=by simpa using e0.2
  subst ar;have j:∀f,aQ D' z f->rf.tmps.getD 4 undef=ak f (fr.tmps.getD 4 undef):=λf B=>by rw[(R.aZ f B).1];simp only[aR,fR,fp];cases fr.tmps[4]? <;>simp[undef]
  refine iq rfl λv2 H=>⟨an (cf.finish (rf.tmps.getD 4 undef)) [bf],#[],by rw[J.P];exact HJ EJ EK i43 (by rw[e0.1];exact h1) (by rw[e0.1];simp[aR,h2,eB]) (by rw[e0.1];simp[aR,h3]) (by rw[e0.1];exact h4) v2,by simp,?_⟩;have U:ml C np (vals i) O1 v1 (rf.tmps.getD 4 undef):=by
   refine⟨⟨E.1,?_⟩,?_,bl.old,λc=> ∃b,D' b/\z b=c,Ib R.heap (λb o _ ho=>aq.thin b o ho),?_,?_⟩
   .rcases E.2 with⟨q1,q2⟩|⟨b,cp,L,q1,q2,q3,q4,q5,q6,q7⟩
    .exact .inl ⟨by rw[j g s,q1];simp,q2⟩
    .have M:=qh R.heap (b:=b) (c:=g b) (λf B=>by
      have e1:=j f B;have I:=j g s;rw[e1,q1]at I;simp only[bg,Option.map_some,Value.slice.injEq,cw,aH,Addr.mk.injEq,and_true]at I;exact I.symm)
     have K: ¬Zc D y b:=λh=>by have:=h.2;omega
     have hx:x'.heap[b]?=some (.cells L 64 (0,0)):=by rw[<-aq.other b K];exact q3
     have ho:=R.heap.obj g s b M.1;rw[hx]at ho;refine .inr ⟨z b,cp,L.map (ak g),by rw[j g s,q1];simp[aH,M.2],(ag _ (p.own b M.1 K)).1,ho,q4,q5,by simpa using q6,?_⟩;rw[iZ,<-List.map_take,q7];exact(List.map_congr_left λu hu=>J.flat i u hu g).trans (List.map_id _)
   .intro a m m' e;obtain⟨q1,q2⟩|⟨b,cp,L,q1,q2,q3,_⟩:=E.2
    .rw[j g s,q1]at e;simp at e
    .have M:=qh R.heap (b:=b) (c:=g b) (λf B=>by
      have e1:=j f B;have I:=j g s;rw[e1,q1]at I;simp only[bg,Option.map_some,Value.slice.injEq,cw,aH,Addr.mk.injEq,and_true]at I;exact I.symm)
     have K: ¬Zc D y b:=λh=>by have:=h.2;omega
     rw[j g s,q1]at e;simp only[bg,Option.map_some,Value.slice.injEq,cw,aH]at e;rw[<-e.1];show O1 (g b);rw[<-M.2];exact p.own b M.1 K
   .rintro c ⟨b,t,rfl⟩;by_cases K:Zc D y b
    .exact .inl (p.old b t K)
    .exact .inr (p.own b t K)
   .intro a m m' e;obtain⟨q1,q2⟩|⟨b,cp,L,q1,q2,q3,_⟩:=E.2
    .rw[j g s,q1]at e;simp at e
    .have M:=qh R.heap (b:=b) (c:=g b) (λf B=>by
      have e1:=j f B;have I:=j g s;rw[e1,q1]at I;simp only[bg,Option.map_some,Value.slice.injEq,cw,aH,Addr.mk.injEq,and_true]at I;exact I.symm)
     rw[j g s,q1]at e;simp only[bg,Option.map_some,Value.slice.injEq,cw,aH]at e;rw[<-e.1];exact⟨b,M.1,M.2⟩
  have bn:C.Own O1 v2:=λc S=>by have:=ag c S;have:=H.size;exact⟨by omega,by omega,by omega,by omega,by omega⟩
  have au:an (cf.finish (rf.tmps.getD 4 undef)) [bf]=rg C.r i c C.dc ao len cap n V x1 W x3 Y (.int .i64 i) (.agg #[.slice ao len cap]) (rf.tmps.getD 4 undef) Z l:=by rw[<-av];exact ZA C.r i c C.dc ao len cap n V x1 W x3 Y _ _ x7 Z l _
  rw[au];exact ab O1 v2 _ H.shape bn (p.xo n rfl) (by unfold Bx at al⊢;rw[H.own n (p.xo n rfl)];exact al) (sU U (λc S=>H.own c S) H.shape.old λc S=>S)
 .refine⟨λb t _=>J.lo b t,λb t K=>absurd ⟨t,J.heap.lt b t⟩ K,λb K=>K.1,λb t e=>?_,λc e=>by rw[e];exact hn⟩;have:=(J.lo b t).1;have h2:=(hO n hn).1;rw[e]at this;omega
 .unfold Bx at t⊢;rw[B.own n hn];exact t
end
noncomputable def dX(j:Nat):List Nat:=((kz[j]?).map λo=>o.after.toList.map (·.on)).getD []
theorem xq:kz.size=10:=by kernel_rfl
theorem MD:(kz.all λo=>o.after.all λe=>Region.binds .any e)=true:=by kernel_rfl
theorem LK:dX 0=[]:=by kernel_rfl
theorem Cc:dX 1=[0]:=by kernel_rfl
theorem Cd:dX 2=[1]:=by kernel_rfl
theorem Ce:dX 3=[2]:=by kernel_rfl
theorem LL:dX 4=[]:=by kernel_rfl
theorem LM:dX 5=[]:=by kernel_rfl
theorem LN:dX 6=[]:=by kernel_rfl
theorem ya:dX 7=[5,6]:=by kernel_rfl
theorem yb:dX 8=[3,4,0,1,2,3,4,5,6,7]:=by kernel_rfl
theorem ue:dX 9=[8,7,7,0,1,2,3,4,5,6,7]:=by kernel_rfl
def ME{j:Nat}{o}(h:kz[j]?=some o){e}(a:e∈o.after):Region.binds .any e=true:=by have b:=a6F.1 MD o (a6i h);exact a6F.1 b e a
def Y5{b j}(h:j∈Region.ready .any kz b):j<10/\∀k∈dX j,b.getD k false=true:=by
 obtain⟨g,_,m⟩:=wS h;rw[xq]at g;refine⟨g,λk a=>?_⟩;unfold dX at a;cases f:kz[j]? with
 |none=>rw[f]at a;simp at a
 |some o=>rw[f]at a;simp only[Option.map_some,i6,eS]at a;obtain⟨e,l,rfl⟩:=a;exact m o f e (a6l.1 l) (ME f (a6l.1 l))
def Xi{b}(p:b.size=10)(h:Region.ready .any kz b=[]){j}(g:j<10)(l:∀k∈dX j,b.getD k false=true):b.getD j false=true:=by
 cases e:b.getD j false with
 |true=>rfl
 |false=>
  exfalso;have f:j<b.size:=by omega
  have a:j<kz.size:=by rw[xq];exact g
  have:j∈Region.ready .any kz b:=by
   simp only[Region.ready,a7n,a6K,dW,a6y];refine⟨a,?_,?_⟩
   .rw[fR,eF f]at e⊢;exact e
   .rw[eF a];simp only[Option.map_some,i6,a6F];intro x m;have o:=l x.on (by
     unfold dX;rw[eF a];simp only[Option.map_some,i6,eS];exact⟨x,a6l.2 m,rfl⟩)
    rw[o];simp
  rw[h]at this;cases this
def RO{b:Array Bool}{j k}(h:(b.setIfInBounds j true).getD k false=true):k=j\/b.getD k false=true:=by
 by_cases e:k=j
 .exact .inl e
 .refine .inr ?_;rw[fR,di (λx=>e x.symm)]at h;rw[fR];exact h
def RM{b:Array Bool}{j k}(h:b.getD k false=true):(b.setIfInBounds j true).getD k false=true:=by
 by_cases e:j=k
 .subst e;have a:j<b.size:=by apply fx;intro f;rw[fR,a6H (by omega)]at h;cases h
  rw[fR,j8 a];rfl
 .rw[fR,di e];rw[fR]at h;exact h
section
variable{C:aI}{D:Nat->Prop}{aj:Nat->Nat}{y:aa}{b0 ao:Option ap}{len cap np:Nat}{vals:Nat->List af}{i c n:Nat}{A:i7}{O:Nat->Prop}{d:Nat}{v:aa}
def Td(C:aI)(np:Nat)(vals:Nat->List af)(i:Nat)(O:Nat->Prop)(v:aa):Prop:=∃a x,v.heap[C.tb]?=some (.cells a C.tt)/\a[i]?=some x/\ml C np (vals i) O v x
def qH{v'}(h:Td C np vals i O v)(a:C.Fr i O v v'):Td C np vals i O v':=by obtain⟨l,x,f,g,j⟩:=h;obtain⟨b,e,_⟩:=a.shape.tb;exact⟨b,x,e,by rw[a.cell _ _ f e];exact g,sU j (λc k=>a.own c k) a.shape.old λ_ h=>h⟩
def kC{v'}(h:C.Own O v)(b:v.heap.size<=v'.heap.size):C.Own O v':=λc a=>by have:=h c a;exact⟨by omega,by omega,by omega,by omega,by omega⟩
def xn(a:C.Shape v)(o)(b:o<6):∃x,v.cell? ⟨C.r,o,none⟩=some x:=by obtain⟨e,f,s2,g,h⟩:=a.rb;rw[a5L h];unfold aI.fc at h;exact⟨_,eF (by simpa using b)⟩
def a0Z(a:C.Shape v):v.cell? ⟨C.r,0,none⟩=some (.slice (some ⟨C.tb,0,none⟩) C.n C.n):=by obtain⟨b,e,s2,f,h⟩:=a.rb;rw[a5L h];rfl
def BB(a:C.Shape v):v.cell? ⟨C.r,3,none⟩=some (.chan (some C.dc)):=by obtain⟨b,e,s2,f,h⟩:=a.rb;rw[a5L h];rfl
def xp(a:C.Shape v):C.r<v.heap.size:=by obtain⟨_,_,_,_,b⟩:=a.rb;exact cP b
def QC(b:C.Shape v):C.Ev i O v.heap.size ⟨.cell ⟨C.r,0,none⟩,false,false⟩:=
 ⟨λx a _=>by simp only[MemAct.ofEvent,MemAct.touch?,cw]at a;subst a;exact .inr ⟨.inr (.inl rfl),rfl⟩,xp b,by simp⟩
def Et(b:C.Shape v):C.Ev i O v.heap.size ⟨.cell ⟨C.r,3,none⟩,false,false⟩:=
 ⟨λx a _=>by simp only[MemAct.ofEvent,MemAct.touch?,cw]at a;subst a;exact .inr ⟨.inr (.inr rfl),rfl⟩,xp b,by simp⟩
def Es{B a o wr}(h:O a)(e:a<B):C.Ev i O B ⟨.cell ⟨a,o,none⟩,wr,false⟩:=
 ⟨λx b _=>by simp only[MemAct.ofEvent,MemAct.touch?,cw]at b;subst b;exact .inl (.inl h),e,by simp⟩
def QD{B}(b:C.tb<B):C.Ev i O B ⟨.cell ⟨C.tb,i,none⟩,true,false⟩:=
 ⟨λx a _=>by simp only[MemAct.ofEvent,MemAct.touch?,cw]at a;subst a;exact .inl (.inr rfl),b,by simp⟩
def lg{e e0}(h:e∈(#[e0]:Array aJ)):e=e0:=by simpa using h
structure t8 (C:aI) (np:Nat) (vals:Nat->List af) (ao:Option ap) (len cap i:Nat) (b:Array Bool) (x0 x1 x2 x3 x4 x5 x6 x7 x8:af) (O:Nat->Prop) (v:aa):Prop where
 sz:b.size=10
 h0:b.getD 0 false=true->x0=.pointer (some ⟨C.r,0,none⟩)
 h1:b.getD 1 false=true->x1=.pointer (some ⟨C.r,0,none⟩)
 h2:b.getD 2 false=true->x2=.pointer (some ⟨C.r,0,none⟩)
 h3:b.getD 3 false=true->x3=.slice (some ⟨C.tb,0,none⟩) C.n C.n
 h4:b.getD 4 false=true->x4=.int .i64 i
 h5:b.getD 5 false=true->x5=.int .i64 i
 h6:b.getD 6 false=true->x6=.agg #[.slice ao len cap]
 h7:b.getD 7 false=true->ml C np (vals i) O v x7
 h8:b.getD 8 false=true->x8=.pointer (some ⟨C.tb,i,none⟩)
 h9:b.getD 9 false=true->Td C np vals i O v
 p9:b.getD 9 false=true->b.getD 7 false=true
def t8.frame{b f x1 g x3 j k l m o v'}(h:t8 C np vals ao len cap i b f x1 g x3 j k l m o O v)(a:C.Fr i O v v'):t8 C np vals ao len cap i b f x1 g x3 j k l m o O v':=
 ⟨h.sz,h.h0,h.h1,h.h2,h.h3,h.h4,h.h5,h.h6,λe=>sU (h.h7 e) (λc p=>a.own c p) a.shape.old λ_ h=>h,h.h8,λe=>qH (h.h9 e) a,h.p9⟩
theorem Jk:Tryz.prog.underlying 80=some (.slice (Tryz.prog.elem 80)):=by kernel_rfl
theorem a1i(w):(sizeOf (Tryz.prog.elem 80)).run Tryz.prog w=.ok 1 w:=by kernel_rfl
def Tw{w tb m}(h:i<m):(do pure (Next.value (<-Instr.indexAt 80 (.slice (some ⟨tb,0,none⟩) m m) (.int .i64 i))):Sem Next).runT Tryz.prog w #[]=(.ok (.value (.pointer (some ⟨tb,i,none⟩))) w,#[]):=by
 have b:(0:Int)<=(i:Int)/\(i:Int)<(m:Int):=by omega
 have a:=run_indexAt_slice (P:=Tryz.prog) (w:=w) 80 ⟨tb,0,none⟩ m m .i64 i Jk;rw[if_pos b,a1i]at a;have e:=events_indexAt_slice (P:=Tryz.prog) (w:=w) (es:=#[]) 80 ⟨tb,0,none⟩ m m .i64 i Jk b;refine km ?_ ?_
 .rw[Sem.runT_fst,Sem.run_bind,a];simp[Result.andThen,Addr.add];exact λh=>h.symm
 .show Sem.events Tryz.prog _ w #[]=#[];rw[Sem.events_bind,a,e];rfl
def Za(J:na C D aj y b0 ao len cap np vals)(hi:i<C.n)(W:∀O v t x1 E x3 F u B H I,C.Shape v->C.Own O v->Td C np vals i O v->C.fh i A O d (rg C.r i c C.dc ao len cap n t x1 E x3 F u B H I []) v):∀{b} {l},gw kz b l->∀O v t x1 E x3 F u B H I,t8 C np vals ao len cap i b t x1 E x3 F u B H I O v->C.Shape v->C.Own O v->O n->Bx ao len cap n v->C.fh i A O d (rg C.r i c C.dc ao len cap n t x1 E x3 F u B H I l) v:=by
 intro b l X;induction X with
 | @nil b h=>intro O v t x1 E x3 F u B H I hI hv w s V;have nl:=fun {j:Nat}=>Xi (j:=j) hI.sz h;have q0:=nl (j:=0) (by omega) (by rw[LK];exact(by simp));have q1:=nl (j:=1) (by omega) (by rw[Cc];exact(ff.2 ⟨q0,(by simp)⟩));have q2:=nl (j:=2) (by omega) (by rw[Cd];exact(ff.2 ⟨q1,(by simp)⟩));have q3:=nl (j:=3) (by omega) (by rw[Ce];exact(ff.2 ⟨q2,(by simp)⟩));have q4:=nl (j:=4) (by omega) (by rw[LL];exact(by simp));have q5:=nl (j:=5) (by omega) (by rw[LM];exact(by simp));have q6:=nl (j:=6) (by omega) (by rw[LN];exact(by simp));have q7:=nl (j:=7) (by omega) (by rw[ya];exact(ff.2 ⟨q5,(ff.2 ⟨q6,(by simp)⟩)⟩));have q8:=nl (j:=8) (by omega) (by rw[yb];exact(ff.2 ⟨q3,(ff.2 ⟨q4,(ff.2 ⟨q0,(ff.2 ⟨q1,(ff.2 ⟨q2,(ff.2 ⟨q3,(ff.2 ⟨q4,(ff.2 ⟨q5,(ff.2 ⟨q6,(ff.2 ⟨q7,(by simp)⟩)⟩)⟩)⟩)⟩)⟩)⟩)⟩)⟩)⟩));have q9:=nl (j:=9) (by omega) (by rw[ue];exact(ff.2 ⟨q8,(ff.2 ⟨q7,(ff.2 ⟨q7,(ff.2 ⟨q0,(ff.2 ⟨q1,(ff.2 ⟨q2,(ff.2 ⟨q3,(ff.2 ⟨q4,(ff.2 ⟨q5,(ff.2 ⟨q6,(ff.2 ⟨q7,(by simp)⟩)⟩)⟩)⟩)⟩)⟩)⟩)⟩)⟩)⟩)⟩));exact W O v _ _ _ _ _ _ _ _ _ hv w (hI.h9 q9)
 | @cons b j l h _ N=>
  intro O v t x1 E x3 F u B H I hI hv w s V;obtain⟨hj,m⟩:=Y5 h;have Q:∀v',C.Fr i O v v'->Bx ao len cap n v':=λv' g=>by unfold Bx at V⊢;rw[g.own n s];exact V
  have p:(b.setIfInBounds j true).size=10:=by simpa using hI.sz
  have a:∀{k:Nat},k≠j->(b.setIfInBounds j true).getD k false=true->b.getD k false=true:=λhk hx=>(RO hx).resolve_left hk;have o:∀{k:Nat},b.getD k false=true->(b.setIfInBounds j true).getD k false=true:=λhk=>RM hk
  match j,hj with
  |0,_=>refine iq rfl λv' g=>⟨_,#[],by rw[J.P];exact Zq ..,by simp,?_⟩;have f:=hI.frame g;exact N O v' _ _ _ _ _ _ _ _ _ ⟨p,λ_=>rfl,λe=>f.h1 (a (by omega) e),λe=>f.h2 (a (by omega) e),λe=>f.h3 (a (by omega) e),λe=>f.h4 (a (by omega) e),λe=>f.h5 (a (by omega) e),λe=>f.h6 (a (by omega) e),λe=>f.h7 (a (by omega) e),λe=>f.h8 (a (by omega) e),λe=>f.h9 (a (by omega) e),λe=>o (hI.p9 (a (by omega) e))⟩ g.shape (kC w g.size) s (Q v' g)
  |1,_=>have Y:=hI.h0 (m 0 (by rw[Cc];simp));subst Y;refine iq rfl λv' g=>⟨_,#[],by rw[J.P];exact Zr ..,by simp,?_⟩;have f:=hI.frame g;exact N O v' _ _ _ _ _ _ _ _ _ ⟨p,λe=>rfl,λ_=>rfl,λe=>f.h2 (a (by omega) e),λe=>f.h3 (a (by omega) e),λe=>f.h4 (a (by omega) e),λe=>f.h5 (a (by omega) e),λe=>f.h6 (a (by omega) e),λe=>f.h7 (a (by omega) e),λe=>f.h8 (a (by omega) e),λe=>f.h9 (a (by omega) e),λe=>o (hI.p9 (a (by omega) e))⟩ g.shape (kC w g.size) s (Q v' g)
  |2,_=>have Y:=hI.h1 (m 1 (by rw[Cd];simp));subst Y;refine iq rfl λv' g=>⟨_,#[],by rw[J.P];exact Zs ..,by simp,?_⟩;have f:=hI.frame g;exact N O v' _ _ _ _ _ _ _ _ _ ⟨p,λe=>f.h0 (a (by omega) e),λe=>rfl,λ_=>rfl,λe=>f.h3 (a (by omega) e),λe=>f.h4 (a (by omega) e),λe=>f.h5 (a (by omega) e),λe=>f.h6 (a (by omega) e),λe=>f.h7 (a (by omega) e),λe=>f.h8 (a (by omega) e),λe=>f.h9 (a (by omega) e),λe=>o (hI.p9 (a (by omega) e))⟩ g.shape (kC w g.size) s (Q v' g)
  |3,_=>
   have Y:=hI.h2 (m 2 (by rw[Ce];simp));subst Y;refine iq rfl λv' g=>⟨rg C.r i c C.dc ao len cap n t x1 (.pointer (some ⟨C.r,0,none⟩)) (.slice (some ⟨C.tb,0,none⟩) C.n C.n) F u B H I l,#[⟨.cell ⟨C.r,0,none⟩,false,false⟩],?_,λe Z=>by rw[lg Z];exact QC g.shape,?_⟩
   .exact by have z:=i9 (v:=.slice (some ⟨C.tb,0,none⟩) C.n C.n) (Zt C.r i c C.dc ao len cap n t x1 x3 F u B H I l v') (by rw[oK (a0Z g.shape)];rfl) (wW ..);rw[Zu]at z;rw[J.P];exact z.trans (congrArg (λx=>GStep.go _ v' x) (by kernel_rfl))
   .have f:=hI.frame g;exact N O v' _ _ _ _ _ _ _ _ _ ⟨p,λe=>f.h0 (a (by omega) e),λe=>f.h1 (a (by omega) e),λe=>rfl,λ_=>rfl,λe=>f.h4 (a (by omega) e),λe=>f.h5 (a (by omega) e),λe=>f.h6 (a (by omega) e),λe=>f.h7 (a (by omega) e),λe=>f.h8 (a (by omega) e),λe=>f.h9 (a (by omega) e),λe=>o (hI.p9 (a (by omega) e))⟩ g.shape (kC w g.size) s (Q v' g)
  |4,_=>refine iq rfl λv' g=>⟨_,#[],by rw[J.P];exact Zv ..,by simp,?_⟩;have f:=hI.frame g;exact N O v' _ _ _ _ _ _ _ _ _ ⟨p,λe=>f.h0 (a (by omega) e),λe=>f.h1 (a (by omega) e),λe=>f.h2 (a (by omega) e),λe=>f.h3 (a (by omega) e),λ_=>rfl,λe=>f.h5 (a (by omega) e),λe=>f.h6 (a (by omega) e),λe=>f.h7 (a (by omega) e),λe=>f.h8 (a (by omega) e),λe=>f.h9 (a (by omega) e),λe=>o (hI.p9 (a (by omega) e))⟩ g.shape (kC w g.size) s (Q v' g)
  |5,_=>refine iq rfl λv' g=>⟨_,#[],by rw[J.P];exact Zw ..,by simp,?_⟩;have f:=hI.frame g;exact N O v' _ _ _ _ _ _ _ _ _ ⟨p,λe=>f.h0 (a (by omega) e),λe=>f.h1 (a (by omega) e),λe=>f.h2 (a (by omega) e),λe=>f.h3 (a (by omega) e),λe=>f.h4 (a (by omega) e),λ_=>rfl,λe=>f.h6 (a (by omega) e),λe=>f.h7 (a (by omega) e),λe=>f.h8 (a (by omega) e),λe=>f.h9 (a (by omega) e),λe=>o (hI.p9 (a (by omega) e))⟩ g.shape (kC w g.size) s (Q v' g)
  |6,_=>
   refine iq rfl λv' g=>⟨rg C.r i c C.dc ao len cap n t x1 E x3 F u (.agg #[.slice ao len cap]) H I l,#[⟨.cell ⟨n,0,none⟩,false,false⟩],?_,λe Z=>by rw[lg Z];exact Es s (kC w g.size n s).2.2.2.2,?_⟩
   .have ae:=Q v' g;exact by have z:=i9 (v:=.agg #[.slice ao len cap]) (Zx C.r i c C.dc ao len cap n t x1 E x3 F u B H I l v') (by rw[oK (a5L ae 0)];rfl) (wW ..);rw[Zy]at z;rw[J.P];exact z.trans (congrArg (λx=>GStep.go _ v' x) (by kernel_rfl))
   .have f:=hI.frame g;exact N O v' _ _ _ _ _ _ _ _ _ ⟨p,λe=>f.h0 (a (by omega) e),λe=>f.h1 (a (by omega) e),λe=>f.h2 (a (by omega) e),λe=>f.h3 (a (by omega) e),λe=>f.h4 (a (by omega) e),λe=>f.h5 (a (by omega) e),λ_=>rfl,λe=>f.h7 (a (by omega) e),λe=>f.h8 (a (by omega) e),λe=>f.h9 (a (by omega) e),λe=>o (hI.p9 (a (by omega) e))⟩ g.shape (kC w g.size) s (Q v' g)
  |7,_=>
   have e5:=hI.h5 (m 5 (by rw[ya];simp));have e6:=hI.h6 (m 6 (by rw[ya];simp));subst e5 e6;have n7:b.getD 7 false=false:=by
    have z:=(wS h).2.1;have U:7<b.size:=by have:=hI.sz;omega
    rw[fR,eF U]at z⊢;exact z
   have n9:b.getD 9 false=false:=by
    cases e:b.getD 9 false with
    |false=>rfl
    |true=>have:=hI.p9 e;rw[n7]at this;cases this
   refine a2o J hi hv w s V λO' v' x ag al aq ar hx=>?_;refine N O' v' _ _ _ _ _ _ _ _ _ ⟨p,λe=>hI.h0 (a (by omega) e),λe=>hI.h1 (a (by omega) e),λe=>hI.h2 (a (by omega) e),λe=>hI.h3 (a (by omega) e),λe=>hI.h4 (a (by omega) e),λ_=>rfl,λ_=>rfl,λ_=>hx,λe=>hI.h8 (a (by omega) e),λe=>(by have:=a (by omega) e;rw[n9]at this;cases this),λe=>(by have:=a (by omega) e;rw[n9]at this;cases this)⟩ ag al aq ar
  |8,_=>
   have e3:=hI.h3 (m 3 (by rw[yb];simp));have e4:=hI.h4 (m 4 (by rw[yb];simp));subst e3 e4;refine iq rfl λv' g=>⟨rg C.r i c C.dc ao len cap n t x1 E (.slice (some ⟨C.tb,0,none⟩) C.n C.n) (.int .i64 i) u B H (.pointer (some ⟨C.tb,i,none⟩)) l,#[],?_,by simp,?_⟩
   .exact by have z:=i9 (v:=.pointer (some ⟨C.tb,i,none⟩)) (ZB C.r i c C.dc ao len cap n t x1 E u B H I l v' C.tb C.n) (Tw hi) (wW ..);rw[ZC]at z;rw[J.P];exact z.trans (congrArg (λx=>GStep.go _ v' x) (by kernel_rfl))
   .have f:=hI.frame g;exact N O v' _ _ _ _ _ _ _ _ _ ⟨p,λe=>f.h0 (a (by omega) e),λe=>f.h1 (a (by omega) e),λe=>f.h2 (a (by omega) e),λe=>rfl,λe=>rfl,λe=>f.h5 (a (by omega) e),λe=>f.h6 (a (by omega) e),λe=>f.h7 (a (by omega) e),λ_=>rfl,λe=>f.h9 (a (by omega) e),λe=>o (hI.p9 (a (by omega) e))⟩ g.shape (kC w g.size) s (Q v' g)
  |9,_=>
   have e8:=hI.h8 (m 8 (by rw[ue];simp));have e7:=hI.h7 (m 7 (by rw[ue];simp));obtain⟨a7,S,q,au⟩:=Hc e7;subst e8 au;refine qL rfl λv' g=>?_;obtain⟨tc,ht,av⟩:=g.shape.tb;have U:=cP ht;have R:∀c,c≠C.tb->(v'.setCell ⟨C.tb,i,none⟩ (.slice a7 S q)).heap[c]?=v'.heap[c]? :=λc T=>pc T;have K:(v'.setCell ⟨C.tb,i,none⟩ (.slice a7 S q)).heap.size=v'.heap.size:=by simp[World.setCell]
   have L:=gp ht i (.slice a7 S q);have M:∀c,O c->(v'.setCell ⟨C.tb,i,none⟩ (.slice a7 S q)).heap[c]?=v.heap[c]? :=λc T=>by rw[R c (w c T).2.2.1];exact g.own c T
   have ab:C.Shape (v'.setCell ⟨C.tb,i,none⟩ (.slice a7 S q)):=by
    refine⟨?_,⟨_,L,by simpa using av⟩,λc T=>?_,g.shape.os,by rw[K];exact g.shape.dl⟩
    .rw[R _ J.ge.2.2.2];exact g.shape.rb
    .rw[R c (by have:=J.ge.2.1;omega)];exact g.shape.old c T
   refine⟨rg C.r i c C.dc ao len cap n t x1 E x3 F u B (.slice a7 S q) (.pointer (some ⟨C.tb,i,none⟩)) l,v'.setCell ⟨C.tb,i,none⟩ (.slice a7 S q),#[⟨.cell ⟨C.tb,i,none⟩,true,false⟩],?_,⟨by rw[K];exact aF _,λc _ _ T=>R c T,⟨tc,_,ht,L,by simp,λj hj=>by rw[di (λe=>hj e.symm)]⟩,rfl,λe Z=>by rw[lg Z];exact QD (by rw[K];exact U)⟩,?_⟩
   .exact by have z:=yc (ZD C.r i c C.dc ao len cap n t x1 E x3 F u B l v' C.tb a7 S q) (by rw[BH (by simp) (by simp) ((a5L ht i).trans (eF (by omega))) (rZ ht i)];rfl) (wW ..);rw[ZE]at z;rw[J.P];exact z.trans (congrArg (λx=>GStep.go _ _ x) (by kernel_rfl))
   .rw[K,pY];have ad:=sU e7 M ab.old λ_ h=>h;exact N O _ _ _ _ _ _ _ _ _ _ ⟨p,λe=>hI.h0 (a (by omega) e),λe=>hI.h1 (a (by omega) e),λe=>hI.h2 (a (by omega) e),λe=>hI.h3 (a (by omega) e),λe=>hI.h4 (a (by omega) e),λe=>hI.h5 (a (by omega) e),λe=>hI.h6 (a (by omega) e),λ_=>ad,λe=>rfl,λ_=>⟨_,_,L,by rw[j8 (by omega)],ad⟩,λ_=>o (m 7 (by rw[ue];simp))⟩ ab (kC w (by rw[K];exact g.size)) s (by unfold Bx at V⊢;rw[M n s];exact V)
end
section
variable{C:aI}{D:Nat->Prop}{aj:Nat->Nat}{y:aa}{ag ao:Option ap}{len cap np:Nat}{vals:Nat->List af}{i c n:Nat}{A:i7}{O:Nat->Prop}{d:Nat}{v:aa}
def ol{K b o cs}:(oi K b o cs).status=.running/\(oj K b o cs).status=.running/\(uC K b o cs).status=.running/\(kV K b o cs).status=.running:=by cases K<;>exact⟨by kernel_rfl,by kernel_rfl,by kernel_rfl,by kernel_rfl⟩
def zm{B m}(b:(MemAct.ofEvent ⟨.mark m,false,true⟩).touch?=none)(f:(MemAct.ofEvent ⟨.mark m,false,true⟩).low B)(g:m≠.release ⟨C.r,4,none⟩):∀e∈(#[⟨.mark m,false,true⟩]:Array aJ),C.Ev i O B e:=by intro e h;rw[lg h];exact⟨λx a=>(by rw[b]at a;cases a),f,by simpa using g⟩
def Dj(e:C.P=⟨Tryz.progTables,Tryz.funcs⟩){K o}(f:o<6){cs}(g:C.Shape v)(h:∀b,C.Fr i O v b->C.fh i A O d (oj K C.r o cs) b):C.fh i A O d (rz K C.r o cs) v:=by refine jB (by rw[e];exact Oj K C.r o cs) (λb j=>?_) g;refine iq ol.1 λk a=>⟨_,#[],?_,by simp,h k (j.trans a)⟩;obtain⟨x,l⟩:=xn a.shape o f;rw[e];exact Oi K C.r o cs l
def Ol(e:C.P=⟨Tryz.progTables,Tryz.funcs⟩){K o cs}(h:∀j,C.Fr i O v j->A O 1 (kV K C.r o cs) j):C.fh i A O 0 (oj K C.r o cs) v:=by refine iq ol.2.1 λk a=>⟨rB K C.r o cs,#[⟨.mark (.releaseMerge ⟨C.r,o,none⟩),false,true⟩],by rw[e];exact Df K C.r o cs k,zm rfl (xp a.shape) (by simp),?_⟩;refine jB (by rw[e];exact Dg K C.r o cs) (λp f=>?_) a.shape;refine iq ol.2.2.1 λl b=>⟨uD K C.r o cs,#[⟨.mark .disable,false,true⟩],by rw[e];exact De K C.r o cs l,zm rfl trivial (by simp),?_⟩;refine jB (by rw[e];exact Dh K C.r o cs) (λm g=>?_) b.shape;exact xE (h m (a.trans (f.trans (b.trans g))))
def Y6(b:C.P=⟨Tryz.progTables,Tryz.funcs⟩)(f:C.Shape v)(g:∀h,A O 0 (qN C.r i c C.dc) h):C.fh i A O 0 (xI C.r i c) v:=by refine jB (by rw[b];exact a3x C.r i c) (λo j=>?_) f;refine iq (by kernel_rfl) λp a=>⟨_,_,by rw[b];exact a3u C.r i c C.dc (BB a.shape),λe k=>by rw[lg k];exact Et a.shape,?_⟩;refine jB (by rw[b];exact a3y C.r i c C.dc) (λl m=>xE (g l)) a.shape
def a3J(J:na C D aj y ag ao len cap np vals)(hi:i<C.n)(R:C.Shape v)(Z:C.Own O v)(hA:∀O v S,Td C np vals i O v->A O 1 (kV false C.r 1 [lZ C.r i c C.dc S,bf]) v):C.fh i A O 0 (BS C.r i c C.dc ao len cap) v:=by
 refine jB (by rw[J.P];exact a3z C.r i c C.dc ao len cap) (λv1 T=>?_) R;refine qL (by kernel_rfl) λf g=>⟨_,_,#[],by rw[J.P];exact a3v C.r i c C.dc ao len cap f,?_,?_⟩
 .obtain⟨l,k,_⟩:=g.shape.tb;exact⟨by show _<=(f.heap.push _).size;simp,λc m _ _=>jr m,⟨l,l,k,(jr (cP k)).trans k,rfl,λ_ _=>rfl⟩,rfl,by simp⟩
 have z:({f with heap:=f.heap.push (.cells #[.slice none 0 0] 120)}:aa).heap.size=f.heap.size+1:=by show(f.heap.push _).size=_;simp
 rw[z];have x:a5O O f.heap.size (f.heap.size+1) f.heap.size:=.inr ⟨aF _,kj _⟩;have ad:C.r<f.heap.size/\C.tb<f.heap.size/\C.dc<f.heap.size:=by obtain⟨l,k,_⟩:=g.shape.tb;exact⟨xp g.shape,cP k,g.shape.dl⟩
 have ab:C.Shape {f with heap:=f.heap.push (.cells #[.slice none 0 0] 120)}:=by
  obtain⟨l,k,h2⟩:=g.shape.tb;refine⟨?_,⟨l,(jr (cP k)).trans k,h2⟩,λc m=>?_,g.shape.os,by rw[z];omega⟩
  .obtain⟨a,b,c,d,U⟩:=g.shape.rb;exact⟨a,b,c,d,(jr (cP U)).trans U⟩
  .rw[jr (by have:=J.ge.1;omega)];exact g.shape.old c m
 have V:∀v3:aa,f.heap.size+1<=v3.heap.size->C.Own (a5O O f.heap.size (f.heap.size+1)) v3:=by
  rintro v3 U c (m|⟨k,h2⟩)
  .have:=Z c m;have:=T.size;have:=g.size;exact⟨by omega,by omega,by omega,by omega,by omega⟩
  .have:=J.ge;exact⟨by omega,by omega,by omega,by omega,by omega⟩
 generalize a5O O f.heap.size (f.heap.size+1)=B at*;generalize hN:f.heap.size=N at*;have E:({f with heap:=f.heap.push (.cells #[.slice none 0 0] 120)}:aa).heap[N]?=some (.cells #[.slice none 0 0] 120):=by rw[<-hN];exact Hn
 generalize ({f with heap:=f.heap.push (.cells #[.slice none 0 0] 120)}:aa)=v3 at*;refine qL (by kernel_rfl) λt h=>?_;have w:t.heap[N]?=some (.cells #[.slice none 0 0] 120):=by rw[h.own N x];exact E
 have o:∀c,c≠N->(t.setCell ⟨N,0,none⟩ (.slice ao len cap)).heap[c]?=t.heap[c]? :=λc m=>pc m;have p:(t.setCell ⟨N,0,none⟩ (.slice ao len cap)).heap.size=t.heap.size:=by simp[World.setCell]
 have F:=gp w 0 (.slice ao len cap);have u:=V t (by have:=h.size;omega);have q:=u N x;have H:C.Shape (t.setCell ⟨N,0,none⟩ (.slice ao len cap)):=by refine⟨by rw[o _ λe=>q.2.1 e.symm];exact h.shape.rb,by rw[o _ λe=>q.2.2.1 e.symm];exact h.shape.tb,λc m=>?_,h.shape.os,by rw[p];exact h.shape.dl⟩;rw[o c (by have:=q.1;omega)];exact h.shape.old c m
 refine⟨_,_,_,by rw[J.P];exact a3E C.r i c C.dc ao len cap N ((a5L w 0).trans rfl) (rZ w 0),⟨by rw[p];exact aF _,λc _ m _=>o c λe=>m (by rw[e];exact x),?_,rfl,λe he=>by rw[lg he,p,pY];exact Es x q.2.2.2.2⟩,?_⟩
 .obtain⟨l,k,_⟩:=h.shape.tb;exact⟨l,l,k,by rw[o _ λe=>q.2.2.1 e.symm];exact k,rfl,λ_ _=>rfl⟩
 rw[p,pY];have I:Bx ao len cap N (t.setCell ⟨N,0,none⟩ (.slice ao len cap)):=F;have W:C.Own B (t.setCell ⟨N,0,none⟩ (.slice ao len cap)):=kC u (by rw[p];exact aF _);generalize t.setCell ⟨N,0,none⟩ (.slice ao len cap)=v5 at*;refine jB (by rw[J.P];exact a3A C.r i c C.dc ao len cap N) (λv6 K=>?_) H;refine qL (by kernel_rfl) λs j=>⟨_,_,#[],by rw[J.P];exact ZG C.r i c C.dc ao len cap N s,?_,?_⟩
 .obtain⟨l,k,_⟩:=j.shape.tb;exact⟨aF _,λ_ _ _ _=>rfl,⟨l,l,k,k,rfl,λ_ _=>rfl⟩,rfl,by simp⟩
 have L:Bx ao len cap N ({s with drawn:=s.drawn+1}:aa):=by show s.heap[N]?=_;rw[(K.trans j).own N x];exact I
 have M:C.Shape ({s with drawn:=s.drawn+1}:aa):=⟨j.shape.rb,j.shape.tb,j.shape.old,j.shape.os,j.shape.dl⟩;have X:C.Own B ({s with drawn:=s.drawn+1}:aa):=kC W (K.trans j).size;rw[show a5O B s.heap.size ({s with drawn:=s.drawn+1}:aa).heap.size=B from pY _ _];refine Za (d:=0) J hi (λO v x0 x1 x2 x3 x4 x5 x6 x7 x8 R Z hT=>?_) (H4 (P:=Tryz.prog) (by kernel_rfl) _) B _ _ _ _ _ _ _ _ _ _ ⟨by rw[xq];simp,?_,?_,?_,?_,?_,?_,?_,?_,?_,?_,?_⟩ M X x L
 .refine jB (by rw[J.P];exact ZF C.r i c C.dc ao len cap N x0 x1 x2 x3 x4 x5 x6 x7 x8) (λv' hf=>?_) R;refine Dj J.P (by omega) hf.shape λae Q=>Ol J.P λv3 Y=>?_;exact hA O v3 ⟨ao,len,cap,N,x0,x1,x2,x3,x4,x5,x6,x7,x8⟩ (qH hT (hf.trans (Q.trans Y)))
 all_goals(intro e;rw[xq]at e;simp at e)
def Mn(b:C.P=⟨Tryz.progTables,Tryz.funcs⟩){S}(j:C.Shape v)(k:∀h,C.Fr i O v h->A O 0 (BV C.r i c C.dc S) h):C.fh i A O 0 (Jo C.r i c C.dc S) v:=by refine jB (by rw[b];exact a3B ..) (λo f=>?_) j;refine iq (a3q ..) λp a=>⟨_,_,by rw[b];exact a3p _ _ _ _ _ _ _ _ _ _ _ _ _ _ _ _ _ (BB a.shape),λe l=>by rw[lg l];exact Et a.shape,?_⟩;refine jB (by rw[b];exact a3C ..) (λm g=>xE (k m (f.trans (a.trans g)))) a.shape
def Eg(e:C.P=⟨Tryz.progTables,Tryz.funcs⟩){k f g S q m}(o:aS Tryz.prog false m k f)(p:f.status=.running)(s:∀w,stepG Tryz.prog false f w=.go g w #[⟨.mark .enable,false,true⟩])(t:aS Tryz.prog false q g (Jo C.r i c C.dc S))(u:C.Shape v)(x:∀l,C.Fr i O v l->A O 0 (BV C.r i c C.dc S) l):C.fh i A O 1 k v:=by refine jB (by rw[e];exact o) (λE h=>?_) u;refine iq p λz a=>⟨g,#[⟨.mark .enable,false,true⟩],by rw[e];exact s z,zm rfl trivial (by simp),?_⟩;refine jB (by rw[e];exact t) (λF b=>?_) a.shape;exact Mn e b.shape λB j=>x B (h.trans (a.trans (b.trans j)))
def YJ{P n g g'}(h:aS P false n g g')(a:g'.status=.finished):QuitsD P n 0 g:=by
 induction h with
 |nil=>exact⟨a,rfl⟩
 |cons b e _ f=>exact .ctl b e (f a)
def YI{P n q d g g'}(h:aS P false n g g')(a:QuitsD P q d g'):QuitsD P (n+q) d g:=by
 induction h with
 |nil=>rw[dG];exact a
 |cons b e _ f=>rw[a6G];exact .ctl b e (f a)
def Hu{P}{n q:Nat}{g1 a b e m}(f:aS P false m g1 a)(g:a.status=.running)(h:∀w,stepG P false a w=.go b w #[⟨.mark .enable,false,true⟩])(j:aS P false q b e)(k:e.status=.finished):QuitsD P (m+(q+1)) 1 g1:=
 YI f (.said ⟨.mark .enable,false,true⟩ rfl g h (YJ j k))
end
section
variable(C:aI)(K:Bool)(bx:Nat)(L:List af)(cs:List ah)(ao:Option ap)(len cap np:Nat)(vals:Nat->List af)
def Cf(o:Nat)(cf:ah):Prop:=(o=1/\∃u,cf=uG K bx C.r C.n u L)\/(o=4/\∃u,cf=rI K bx C.r C.n u L)
noncomputable def gZ:cC C where
 tv:=.agg #[.slice ao len cap]
 zS:=undef
 zT:=zT
 zD:=.agg #[]
 MK k g:=k<C.n/\∃u,g=an (or K bx C.r C.n k u L) cs
 GO k c g:=k<C.n/\∃u,g=an (oq K bx C.r C.n k u L c) cs
 SN k c g:=k<C.n/\∃u,g=an (pL K bx C.r C.n k u L c ao len cap) cs
 LW o g:=∃cf u,Cf C K bx L o cf/\g=mW C.r o (cf::cs) u
 CA o m g:=∃cf u,Cf C K bx L o cf/\(1<=m/\m<=8)/\g=iY C.r o (cf::cs) u ((m:Int)*KK)
 SA o g:=∃cf u,∃m:Nat,Cf C K bx L o cf/\(1<=m/\m<=8)/\g=jC C.r o (cf::cs) u ((m:Int)*KK)
 LD o g:=∃cf u,∃m:Nat,Cf C K bx L o cf/\(1<=m/\m<=8)/\g=l5 C.r o (cf::cs) u ((m:Int)*KK)
 AQ o g:=∃cf u,Cf C K bx L o cf/\(g=tQ C.r o (cf::cs) u\/∃m:Nat,(1<=m/\m<=8)/\g=pu C.r o (cf::cs) u ((m:Int)*KK))
 CL g:=∃u,g=an (mB K bx C.r C.n u L C.dc) cs
 FN g:=∃m u,aS Tryz.prog true m g (an ((rI K bx C.r C.n u L).finish (.tuple #[])) cs)
 S1 i c g:=i<C.n/\g=qN C.r i c C.dc
 AD o i c g:=(o=1/\∃S,g=kV false C.r 1 [lZ C.r i c C.dc S,bf])\/(o=4/\∃S,g=kV true C.r 4 [lC C.r i c C.dc S,bf])
 LA o i c g:=(o=1/\∃S,g=my false C.r 1 [lZ C.r i c C.dc S,bf])\/(o=4/\∃S,g=my true C.r 4 [lC C.r i c C.dc S,bf])
 LB o i c g:=(o=1/\∃S,g=mz false C.r 1 [lZ C.r i c C.dc S,bf])\/(o=4/\∃S,g=mz true C.r 4 [lC C.r i c C.dc S,bf])
 LC o i c g:=(o=1/\∃S,g=kU false C.r 1 [lZ C.r i c C.dc S,bf])\/(o=4/\∃S,g=kU true C.r 4 [lC C.r i c C.dc S,bf])
 S2 i c g:=∃S,g=BV C.r i c C.dc S
 RL i c g:=∃S,g=oj true C.r 4 [lC C.r i c C.dc S,bf]
 TD i O v:=Td C np vals i O v
end
section
variable{C:aI}{K:Bool}{bx:Nat}{L:List af}{cs:List ah}{ao:Option ap}{len cap np:Nat}{vals:Nat->List af}
def dE(c:C.P=⟨Tryz.progTables,Tryz.funcs⟩){main E m d b g g' X}(h:aS Tryz.prog main m g g')(k:C.To main E d g' b X):C.To main E d g b X:=by obtain⟨i,a,e,f⟩:=k;exact⟨_,a,(YG (by rw[c];exact h)).trans e,f⟩
def lX(c:C.P=⟨Tryz.progTables,Tryz.funcs⟩){main E d b g g' X}(es)(f:g.status=.running)(h:∀v,C.Shape v->stepG Tryz.prog main g v=.go g' v es)(i:∀e∈es,E e)(k:C.To main E (deafBehind d es) g' b X):C.To main E d g b X:=by obtain⟨n,a,j,l⟩:=k;exact⟨_,a,.cons es f (λv m=>by rw[c];exact h v m) i j,l⟩
def gN{main E d g X}(h:X g):C.To main E d g d X:=⟨0,g,.nil,h⟩
def zk{m}(b:(MemAct.ofEvent ⟨.mark m,false,true⟩).touch?=none)(c:(MemAct.ofEvent ⟨.mark m,false,true⟩).low (C.r+1))(d:m≠.release ⟨C.r,4,none⟩):∀e∈(#[⟨.mark m,false,true⟩]:Array aJ),C.d9 e:=by intro e f;rw[lg f];exact⟨λx a=>(by rw[b]at a;cases a),c,by simpa using d⟩
def Er{a}(h:C.common (.cell a))(c:a.block<C.r+1):∀e∈(#[⟨.cell a,false,false⟩]:Array aJ),C.d9 e:=by intro e d;rw[lg d];exact⟨λx b _=>(by simp only[MemAct.ofEvent,MemAct.touch?,cw]at b;subst b;exact .inl ⟨h,rfl⟩),c,by simp⟩
def Qz{o}(b:o=1\/o=2\/o=4\/o=5):∀e∈(#[⟨.mark (.write ⟨C.r,o,none⟩),false,true⟩]:Array aJ),C.d9 e:=by intro e c;rw[lg c];exact⟨λx a _=>(by simp only[MemAct.ofEvent,MemAct.touch?,cw]at a;subst a;exact .inr ⟨Ck b,rfl⟩),kj _,by simp⟩
def BQ(a:C.P=⟨Tryz.progTables,Tryz.funcs⟩){o cf}(b:Cf C K bx L o cf):C.To true C.d9 0 (tP C.r o (cf::cs)) 1 ((gZ C K bx L cs ao len cap np vals).LW o):=by refine dE a (a4o C.r o (cf::cs)) (lX a #[⟨.mark .disable,false,true⟩] (by kernel_rfl) (λv _=>a4n C.r o (cf::cs) v) (zk rfl trivial (by simp)) ?_);obtain⟨u,c⟩:=a4p C.r o (cf::cs);exact dE a c (dE a (Js C.r o (cf::cs) u) (gN ⟨cf,u,b,rfl⟩))
def UF(a:C.P=⟨Tryz.progTables,Tryz.funcs⟩){o cf u}(b:Cf C K bx L o cf):C.To true C.d9 1 (wq C.r o (cf::cs) u) 1 ((gZ C K bx L cs ao len cap np vals).LW o):=dE a (Js C.r o (cf::cs) u) (gN ⟨cf,u,b,rfl⟩)
def uq{o cf}(a:Cf C K bx L o cf):o=1\/o=4:=a.elim (λh=>.inl h.1) λh=>.inr h.1
def Ca(a:C.P=⟨Tryz.progTables,Tryz.funcs⟩){o q cf}(d:Cf C K bx L o cf){b}(e:aS Tryz.prog true q b (an (cf.finish (.tuple #[])) cs)):(o=1->C.To true C.d9 0 b 0 (gZ C K bx L cs ao len cap np vals).CL)/\(o=4->(gZ C K bx L cs ao len cap np vals).FN b):=by
 refine⟨λc=>?_,λc=>?_⟩
 .subst c;obtain⟨_,u,rfl⟩|⟨h,_⟩:=d
  .refine dE a e ?_;obtain⟨u1,f⟩:=O9 K bx C.r C.n u L cs;refine dE a f ?_;obtain⟨u2,g⟩:=OL K bx C.r C.n u1 L cs C.dc;refine lX a #[⟨.cell ⟨C.r,3,none⟩,false,false⟩] rfl (λv i=>?_) (Er (.inr (.inr rfl)) (kj _)) (gN ⟨u2,g⟩);have:=i9 (v:=.chan (some C.dc)) (OK K bx C.r C.n u1 L cs v) (by rw[oK (BB i)];rfl) (OM K bx C.r C.n u1 L cs);exact this.trans (congrArg (λx=>GStep.go _ v x) (by kernel_rfl))
  .cases h
 .subst c;obtain⟨h,_⟩|⟨_,u,rfl⟩:=d
  .cases h
  .exact⟨q,u,e⟩
def xP{b o cs u}:(mW b o cs u).status=.running/\(xN b o cs u).status=.running/\(pv b o cs u).status=.running/\(tQ b o cs u).status=.running/\(xO b o cs u).status=.running/\(j6 b o cs u 0).status=.running:=⟨by kernel_rfl,by kernel_rfl,by kernel_rfl,by kernel_rfl,by kernel_rfl,by kernel_rfl⟩
theorem a3O{b o cs u s}:(j6 b o cs u s).status=.running:=by kernel_rfl
def iC{a b o cs}:(my a b o cs).status=.running/\(uz a b o cs).status=.running/\(mz a b o cs).status=.running/\(uA a b o cs).status=.running/\(kU a b o cs).status=.running/\(pG a b o cs).status=.running/\(uB a b o cs).status=.running/\(mA a b o cs 1).status=.running:=by cases a<;>exact⟨by kernel_rfl,by kernel_rfl,by kernel_rfl,by kernel_rfl,by kernel_rfl,by kernel_rfl,by kernel_rfl,by kernel_rfl⟩
end
end Go.Proofs.Each
end
