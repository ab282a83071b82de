import Derived.Laws.AppendOwn
import Derived.Test.YtdnpeefnobjfaaaGreatDoorK08
import Derived.Test.YtdnpeefnobjfaaaGreatDoorK42
import Derived.Test.YtdnpeefnobjfaaaGreatDoorK43
import Derived.Test.YtdnpeefnobjfaaaGreatDoorK44
import Derived.Test.YtdnpeefnobjfaaaGreatDoorK46
set_option maxRecDepth 100000
set_option maxHeartbeats 4000000
set_option linter.all false
section
namespace Go.Proofs.Each
open Go.Conc Go.Mir
structure oE (C:aI) (D:Nat->Prop) (ai:Nat->Nat) (y:aa) (b0 ao:Option aF) (len cap np:Nat) (vals:Nat->List aj):Prop where
 P:C.P=⟨Tryz.progTables,Tryz.funcs⟩
 tr:C.tr=260
 tt:C.tt=46
 ge:C.B0<=C.r/\C.B0<=C.tb/\C.B0<=C.dc/\C.r≠C.tb
 heap:cU Tryz.progTables.globals.size D ai y C.v0
 lo:∀b,D b->ai b<C.B0/\¬C.SB (ai b)
 os:C.v0.os=y.os
 low:∀b,b<Tryz.progTables.globals.size+1->D b/\ai b=b
 all:cA Tryz.progTables.globals.size y
 thin:∀(b:Nat) o,y.heap[b]?=some o->thin o
 args:∀g,aQ D ai g->(.slice ao len cap:aj)=al g (.slice b0 len cap)
 calls:∀i,i<C.n->∀τ,Calls ⟨Tryz.progTables,Gh.funcs.{1}⟩ 43 #[.int .i64 i,.agg #[.slice b0 len cap]] (re (f8 D y) τ 0) fun| .returned x,w'=>w'.ownsRow y.heap.size 64 2 x np (vals i)|_,_=>False
 flat:∀i,∀u∈vals i,∀g,al g u=u
def nv(C:aI)(np:Nat)(e:List aj)(O:Nat->Prop)(v:aa)(x:aj):Prop:=v.ownsRow C.B0 64 2 x np e/\(∀a m b,x=.slice (some a) m b->O a.block)/\(∀c,c<C.B0->v.heap[c]?=C.v0.heap[c]?)/\∃S:Nat->Prop,iA Tryz.progTables.globals.size S v/\(∀c,S c->(c<C.B0/\¬C.SB c)\/O c)/\∀a m b,x=.slice (some a) m b->S a.block
def vP{C np k O l v v' x}(h:nv C np k O v x)(o:∀c,O c->v'.heap[c]?=v.heap[c]?)(b:∀c,c<C.B0->v'.heap[c]?=C.v0.heap[c]?)(p:∀c,O c->l c):nv C np k l v' x:=by
 obtain⟨r,s,u,S,w,t,z⟩:=h;refine⟨⟨r.1,?_⟩,λa m B e=>p _ (s a m B e),b,S,w.keep λc f=>?_,λc f=>(t c f).imp id (p c),z⟩
 .rcases r.2 with q1|⟨g,cap,j,q1,E,q3,F⟩
  .exact .inl q1
  .exact .inr ⟨g,cap,j,q1,E,by rw[o g (s _ _ _ q1)];exact q3,F⟩
 .rcases t c f with q|q
  .rw[b c q.1,u c q.1]
  .exact o c q
def Jt{C np e O v x}(h:nv C np e O v x):∃a m m',x=.slice a m m':=by
 obtain⟨b,_⟩|⟨g,cap,f,b,_⟩:=h.1.2
 .exact⟨_,_,_,b⟩
 .exact⟨_,_,_,b⟩
def Tw:∃c,Tryz.f43.body=some c:=⟨_,rfl⟩
def GU:Tryz.f43.results=#[.tmp 4]:=Tryz.results43
def Tx:Gh.funcs.{1}[43]?=some Tryz.f43:=Gh.func43.{1}
theorem GS:Tryz.funcs[43]?=some Tryz.f43:=by kernel_rfl
theorem i43:Tryz.progTables.inits.idxOf? 43=none:=by kernel_rfl
def J2{T F' main f fn}{k:Tmp}(e:F'[f]?=some fn)(a:fn.results=#[.tmp k])(p:T.inits.idxOf? f=none){b c cs}(h:b.fn=f)(g:b.mode=.returning)(j:b.defers=[])(l:b.kind=.normal)(v):stepG ⟨T,F'⟩ main (am b (c::cs)) v=.go (am (c.finish (b.tmps.getD k undef)) cs) v #[]:=by
 rw[kw (by rw[g];simp)];unfold unwind;rw[j];dsimp only;rw[g];dsimp only;rw[h,e];dsimp only;have o:(results fn b.tmps).runT ⟨T,F'⟩ v #[]=(.ok (b.tmps.getD k undef) v,#[]):=by
  refine jY ?_ ?_
  .rw[Sem.runT_fst,results_tmp a]
  .exact events_results_tmp a _ _
 rw[o];simp only[doReturn,l,GStep.after];simp[seen,am]
def B5:∀q,ln q->∃a s,Gh.funcs.{1}[q]?=some a/\a.body=some (.refuse s):=by
 intro q b;obtain rfl|rfl|rfl|rfl:=b
 .exact⟨_, "-",Gh.funcU106.{1},by unfold Gh.f106;rw[Gh.CK];rfl⟩
 .exact⟨_, "-",Gh.funcU144.{1},by unfold Gh.f144;rw[Gh.CK];rfl⟩
 .exact⟨_, "-",Gh.funcU145.{1},by unfold Gh.f145;rw[Gh.CK];rfl⟩
 .exact⟨_, "-",Gh.func154.{1},rfl⟩
section
variable{C:aI}{D:Nat->Prop}{ai:Nat->Nat}{y:aa}{b0 ao:Option aF}{len cap np:Nat}{vals:Nat->List aj}{i c n:Nat}{A:kP}{O:Nat->Prop}{d:Nat}{v:aa}
def Bx(ao:Option aF)(len cap n:Nat)(v:aa):Prop:=v.heap[n]?=some (.cells #[.slice ao len cap] 120)
def a4W(J:oE C D ai y b0 ao len cap np vals)(hi:i<C.n){V x1 W x3 Y x7 Z l}(hv:C.Shape v)(hO:C.Own O v)(hn:O n)(t:Bx ao len cap n v)(ab:∀O v x,C.Shape v->C.Own O v->O n->Bx ao len cap n v->nv C np (vals i) O v x->C.fk i A O d (rg C.r i c C.dc ao len cap n V x1 W x3 Y (.int .i64 i) (.agg #[.slice ao len cap]) x Z l) v):C.fk i A O d (rg C.r i c C.dc ao len cap n V x1 W x3 Y (.int .i64 i) (.agg #[.slice ao len cap]) x7 Z (7::l)) v:=by
 refine iL rfl λv' B=>⟨_,#[],by rw[J.P];exact a1T C.r i c C.dc ao len cap n V x1 W x3 Y x7 Z l v',a9i,?_⟩;generalize aP:(rg C.r i c C.dc ao len cap n V x1 W x3 Y (.int .i64 i) (.agg #[.slice ao len cap]) x7 Z (7::l)).frame=cf;obtain⟨cc,N⟩:=Tw;have bo:C.r<v'.heap.size:=by obtain⟨_,_,_,_,h1⟩:=B.shape.rb;exact cV h1
 have hh:cU Tryz.progTables.globals.size D ai y v':=cU.mk J.heap.lt (λb t=>by have:=(J.lo b t).1;have:=J.ge.1;omega) J.heap.inj (λf ba b t=>by rw[B.shape.old _ (J.lo b t).1];exact J.heap.obj f ba b t) J.heap.ok;have ad:=a6u (T:=Tryz.progTables) (F:=Gh.funcs.{1}) (F':=Tryz.funcs) (q:=43) (k:=4) (v:=v') (rargs:=#[.int .i64 i,.agg #[.slice ao len cap]]) (args:=#[.int .i64 i,.agg #[.slice b0 len cap]]) (Rr:=λx w'=>w'.ownsRow y.heap.size 64 2 x np (vals i))
  im.{1} vK.{1} Tx GS N GU hh ((congrArg Prod.fst B.shape.os).trans J.os) J.low J.all J.thin (λg hg=>by have:=J.args g hg;simp[this]) (λx w τ d h=>h) (J.calls i hi) [cf,bf]
 obtain⟨ae,hR⟩:=ad;have bb:C.Own O v':=λc S=>by have:=hO c S;have:=B.size;exact⟨a9h,a9h,a9h,a9h,a9h⟩
 refine a5e (cs:=[cf,bf]) (X:=λc=>c=n) (Q:=Bx ao len cap n) J.P ⟨J.ge.1,J.ge.2.1⟩ ml.{1} im.{1} cL.{1} B5 (λfr gs w h=>h.2.2.1) (λv v' t hk=>?_) ?_ ae D ai v' _ [cf,bf] O hR ?_ B.shape bb ?_
 .unfold Bx at t⊢;rw[hk n rfl];exact t
 .intro fr gs w D' z v1 rf bc O1 hS bd p bl ap aq;obtain⟨rfl,h1,h2,h3,h4,E⟩:=hS;obtain⟨x',ar,R⟩:=bd;have s:=aL R.heap 0;generalize (ag D' z (v1.heap.size+0))=g at s;have e0:=R.aX g s;have au:bc=[cf,bf]:=by simpa using e0.2
  subst au;have j:∀f,aQ D' z f->rf.tmps.getD 4 undef=al f (fr.tmps.getD 4 undef):=λf B=>by rw[(R.aX f B).1];simp only[aO,io,ip];cases fr.tmps[4]? <;>simp[undef]
  refine iL rfl λv2 H=>⟨am (cf.finish (rf.tmps.getD 4 undef)) [bf],#[],by rw[J.P];exact J2 GS GU i43 (by rw[e0.1];exact h1) (by rw[e0.1];simp[aO,h2,dZ]) (by rw[e0.1];simp[aO,h3]) (by rw[e0.1];exact h4) v2,a9i,?_⟩;have U:nv C np (vals i) O1 v1 (rf.tmps.getD 4 undef):=by
   refine⟨⟨E.1,?_⟩,?_,bl.old,λc=> ∃b,D' b/\z b=c,Kr R.heap (λb o _ ho=>ar.thin b o ho),?_,?_⟩
   .rcases E.2 with⟨q1,q2⟩|⟨b,cp,L,q1,q2,q3,q4,q5,q6,q7⟩
    .exact .inl ⟨by rw[j g s,q1];simp,q2⟩
    .have M:=sO R.heap (b:=b) (c:=g b) (λf B=>by
      have e1:=j f B;have I:=j g s;rw[e1,q1]at I;simp only[fh,bY,Value.slice.injEq,cK,aG,Addr.mk.injEq,and_true]at I;exact I.symm)
     have K: ¬Zc D y b:=λh=>by have:=h.2;omega
     have hx:x'.heap[b]?=some (.cells L 64 (0,0)):=by rw[<-ar.other b K];exact q3
     have ho:=R.heap.obj g s b M.1;rw[hx]at ho;refine .inr ⟨z b,cp,L.map (al g),by rw[j g s,q1];simp[aG,M.2],(ap _ (p.own b M.1 K)).1,ho,q4,q5,by simpa using q6,?_⟩;rw[kH,<-List.map_take,q7];exact(List.map_congr_left λu hu=>J.flat i u hu g).trans (List.map_id _)
   .intro a m m' e;obtain⟨q1,q2⟩|⟨b,cp,L,q1,q2,q3,_⟩:=E.2
    .rw[j g s,q1]at e;simp at e
    .have M:=sO R.heap (b:=b) (c:=g b) (λf B=>by
      have e1:=j f B;have I:=j g s;rw[e1,q1]at I;simp only[fh,bY,Value.slice.injEq,cK,aG,Addr.mk.injEq,and_true]at I;exact I.symm)
     have K: ¬Zc D y b:=λh=>by have:=h.2;omega
     rw[j g s,q1]at e;simp only[fh,bY,Value.slice.injEq,cK,aG]at e;rw[<-e.1];show O1 (g b);rw[<-M.2];exact p.own b M.1 K
   .rintro c ⟨b,t,rfl⟩;by_cases K:Zc D y b
    .exact .inl (p.old b t K)
    .exact .inr (p.own b t K)
   .intro a m m' e;obtain⟨q1,q2⟩|⟨b,cp,L,q1,q2,q3,_⟩:=E.2
    .rw[j g s,q1]at e;simp at e
    .have M:=sO R.heap (b:=b) (c:=g b) (λf B=>by
      have e1:=j f B;have I:=j g s;rw[e1,q1]at I;simp only[fh,bY,Value.slice.injEq,cK,aG,Addr.mk.injEq,and_true]at I;exact I.symm)
     rw[j g s,q1]at e;simp only[fh,bY,Value.slice.injEq,cK,aG]at e;rw[<-e.1];exact⟨b,M.1,M.2⟩
  have bn:C.Own O1 v2:=λc S=>by have:=ap c S;have:=H.size;exact⟨a9h,a9h,a9h,a9h,a9h⟩
  have av:am (cf.finish (rf.tmps.getD 4 undef)) [bf]=rg C.r i c C.dc ao len cap n V x1 W x3 Y (.int .i64 i) (.agg #[.slice ao len cap]) (rf.tmps.getD 4 undef) Z l:=by rw[<-aP];exact a1U C.r i c C.dc ao len cap n V x1 W x3 Y _ _ x7 Z l _
  rw[av];exact ab O1 v2 _ H.shape bn (p.xo n rfl) (by unfold Bx at aq⊢;rw[H.own n (p.xo n rfl)];exact aq) (vP U (λc S=>H.own c S) H.shape.old λc S=>S)
 .refine⟨λb t _=>J.lo b t,λb t K=>absurd ⟨t,J.heap.lt b t⟩ K,λb K=>K.1,λb t e=>?_,λc e=>by rw[e];exact hn⟩;have:=(J.lo b t).1;have h2:=(hO n hn).1;rw[e]at this;omega
 .unfold Bx at t⊢;rw[B.own n hn];exact t
end
noncomputable def dP(j:Nat):List Nat:=((lq[j]?).map λo=>o.after.toList.map (·.on)).getD []
theorem zO:lq.size=10:=by kernel_rfl
theorem Pg:(lq.all λo=>o.after.all λe=>Region.binds .any e)=true:=by kernel_rfl
theorem Oj:dP 0=[]:=by kernel_rfl
theorem Eu:dP 1=[0]:=by kernel_rfl
theorem Ew:dP 2=[1]:=by kernel_rfl
theorem Ex:dP 3=[2]:=by kernel_rfl
theorem Ol:dP 4=[]:=by kernel_rfl
theorem Om:dP 5=[]:=by kernel_rfl
theorem Oo:dP 6=[]:=by kernel_rfl
theorem Aw:dP 7=[5,6]:=by kernel_rfl
theorem Ax:dP 8=[3,4,0,1,2,3,4,5,6,7]:=by kernel_rfl
theorem wS:dP 9=[8,7,7,0,1,2,3,4,5,6,7]:=by kernel_rfl
def Pj{j:Nat}{o}(h:lq[j]?=some o){e}(a:e∈o.after):Region.binds .any e=true:=by have b:=b0j.1 Pg o (ou h);exact b0j.1 b e a
def a1n{b j}(h:j∈Region.ready .any lq b):j<10/\∀k∈dP j,b.getD k false=true:=by
 obtain⟨g,_,p⟩:=ze h;rw[zO]at g;refine⟨g,λk a=>?_⟩;unfold dP at a;cases f:lq[j]? with
 |none=>rw[f]at a;simp at a
 |some o=>rw[f]at a;simp only[bY,kO,eS]at a;obtain⟨e,l,rfl⟩:=a;exact p o f e (pF.1 l) (Pj f (pF.1 l))
def Zt{b}(q:b.size=10)(h:Region.ready .any lq b=[]){j}(g:j<10)(l:∀k∈dP j,b.getD k false=true):b.getD j false=true:=by
 cases e:b.getD j false with
 |true=>rfl
 |false=>
  exfalso;have f:j<b.size:=a9h
  have a:j<lq.size:=by rw[zO];exact g
  have:j∈Region.ready .any lq b:=by
   simp only[Region.ready,b0y,pK,eO,pH];refine⟨a,?_,?_⟩
   .rw[io,eY f]at e⊢;exact e
   .rw[eY a];simp only[bY,kO,b0j];intro x o;have p:=l x.on (by
     unfold dP;rw[eY a];simp only[bY,kO,eS];exact⟨x,pF.2 o,rfl⟩)
    rw[p];simp
  rw[h]at this;cases this
def UG{b:Array Bool}{j k}(h:(b.setIfInBounds j true).getD k false=true):k=j\/b.getD k false=true:=by
 by_cases e:k=j
 .exact .inl e
 .refine .inr ?_;rw[io,dw (λx=>e x.symm)]at h;rw[io];exact h
def UF{b:Array Bool}{j k}(h:b.getD k false=true):(b.setIfInBounds j true).getD k false=true:=by
 by_cases e:j=k
 .subst e;have a:j<b.size:=by apply eQ;intro f;rw[io,b1v a9h]at h;cases h
  rw[io,lG a];rfl
 .rw[io,dw e];rw[io]at h;exact h
section
variable{C:aI}{D:Nat->Prop}{ai:Nat->Nat}{y:aa}{b0 ao:Option aF}{len cap np:Nat}{vals:Nat->List aj}{i c n:Nat}{A:kP}{O:Nat->Prop}{d:Nat}{v:aa}
def Td(C:aI)(np:Nat)(vals:Nat->List aj)(i:Nat)(O:Nat->Prop)(v:aa):Prop:=∃a x,v.heap[C.tb]?=some (.cells a C.tt)/\a[i]?=some x/\nv C np (vals i) O v x
def tE{v'}(h:Td C np vals i O v)(a:C.Fr i O v v'):Td C np vals i O v':=by obtain⟨l,x,f,g,j⟩:=h;obtain⟨b,e,_⟩:=a.shape.tb;exact⟨b,x,e,by rw[a.cell _ _ f e];exact g,vP j (λc k=>a.own c k) a.shape.old λ_ h=>h⟩
def ls{v'}(h:C.Own O v)(b:v.heap.size<=v'.heap.size):C.Own O v':=λc a=>by have:=h c a;exact⟨a9h,a9h,a9h,a9h,a9h⟩
def zL(a:C.Shape v)(o)(b:o<6):∃x,v.cell? ⟨C.r,o,none⟩=some x:=by obtain⟨e,f,s2,g,h⟩:=a.rb;rw[a9p h];unfold aI.fg at h;exact⟨_,eY (by simpa using b)⟩
def a3F(a:C.Shape v):v.cell? ⟨C.r,0,none⟩=some (.slice (some ⟨C.tb,0,none⟩) C.n C.n):=by obtain⟨b,e,s2,f,h⟩:=a.rb;rw[a9p h];rfl
def Dz(a:C.Shape v):v.cell? ⟨C.r,3,none⟩=some (.chan (some C.dc)):=by obtain⟨b,e,s2,f,h⟩:=a.rb;rw[a9p h];rfl
def zM(a:C.Shape v):C.r<v.heap.size:=by obtain⟨_,_,_,_,b⟩:=a.rb;exact cV b
def Ti(b:C.Shape v):C.Ev i O v.heap.size ⟨.cell ⟨C.r,0,none⟩,false,false⟩:=
 ⟨λx a _=>by simp only[MemAct.ofEvent,MemAct.touch?,cK]at a;subst a;exact .inr ⟨.inr (.inl rfl),rfl⟩,zM b,a9i⟩
def GA(b:C.Shape v):C.Ev i O v.heap.size ⟨.cell ⟨C.r,3,none⟩,false,false⟩:=
 ⟨λx a _=>by simp only[MemAct.ofEvent,MemAct.touch?,cK]at a;subst a;exact .inr ⟨.inr (.inr rfl),rfl⟩,zM b,a9i⟩
def Gz{B a o wr}(h:O a)(e:a<B):C.Ev i O B ⟨.cell ⟨a,o,none⟩,wr,false⟩:=
 ⟨λx b _=>by simp only[MemAct.ofEvent,MemAct.touch?,cK]at b;subst b;exact .inl (.inl h),e,a9i⟩
def Tj{B}(b:C.tb<B):C.Ev i O B ⟨.cell ⟨C.tb,i,none⟩,true,false⟩:=
 ⟨λx a _=>by simp only[MemAct.ofEvent,MemAct.touch?,cK]at a;subst a;exact .inl (.inr rfl),b,a9i⟩
def l8{e e0}(h:e∈(#[e0]:Array aT)):e=e0:=by simpa using h
structure wL (C:aI) (np:Nat) (vals:Nat->List aj) (ao:Option aF) (len cap i:Nat) (b:Array Bool) (x0 x1 x2 x3 x4 x5 x6 x7 x8:aj) (O:Nat->Prop) (v:aa):Prop where
 sz:b.size=10
 h0:b.getD 0 false=true->x0=.pointer (some ⟨C.r,0,none⟩)
 h1:b.getD 1 false=true->x1=.pointer (some ⟨C.r,0,none⟩)
 h2:b.getD 2 false=true->x2=.pointer (some ⟨C.r,0,none⟩)
 h3:b.getD 3 false=true->x3=.slice (some ⟨C.tb,0,none⟩) C.n C.n
 h4:b.getD 4 false=true->x4=.int .i64 i
 h5:b.getD 5 false=true->x5=.int .i64 i
 h6:b.getD 6 false=true->x6=.agg #[.slice ao len cap]
 h7:b.getD 7 false=true->nv C np (vals i) O v x7
 h8:b.getD 8 false=true->x8=.pointer (some ⟨C.tb,i,none⟩)
 h9:b.getD 9 false=true->Td C np vals i O v
 p9:b.getD 9 false=true->b.getD 7 false=true
def wL.frame{b f x1 g x3 j k l o p v'}(h:wL C np vals ao len cap i b f x1 g x3 j k l o p O v)(a:C.Fr i O v v'):wL C np vals ao len cap i b f x1 g x3 j k l o p O v':=
 ⟨h.sz,h.h0,h.h1,h.h2,h.h3,h.h4,h.h5,h.h6,λe=>vP (h.h7 e) (λc q=>a.own c q) a.shape.old λ_ h=>h,h.h8,λe=>tE (h.h9 e) a,h.p9⟩
theorem LO:Tryz.prog.underlying 80=some (.slice (Tryz.prog.elem 80)):=by kernel_rfl
theorem a3N(w):(sizeOf (Tryz.prog.elem 80)).run Tryz.prog w=.ok 1 w:=by kernel_rfl
def V5{w tb m}(h:i<m):(do pure (Next.value (<-Instr.indexAt 80 (.slice (some ⟨tb,0,none⟩) m m) (.int .i64 i))):Sem Next).runT Tryz.prog w #[]=(.ok (.value (.pointer (some ⟨tb,i,none⟩))) w,#[]):=by
 have b:(0:Int)<=(i:Int)/\(i:Int)<(m:Int):=a9h
 have a:=run_indexAt_slice (P:=Tryz.prog) (w:=w) 80 ⟨tb,0,none⟩ m m .i64 i LO;rw[if_pos b,a3N]at a;have e:=events_indexAt_slice (P:=Tryz.prog) (w:=w) (es:=#[]) 80 ⟨tb,0,none⟩ m m .i64 i LO b;refine jY ?_ ?_
 .rw[Sem.runT_fst,Sem.run_bind,a];simp[Result.andThen,Addr.add];exact λh=>h.symm
 .show Sem.events Tryz.prog _ w #[]=#[];rw[Sem.events_bind,a,e];rfl
def a1s(J:oE C D ai y b0 ao len cap np vals)(hi:i<C.n)(X:∀O v u x1 F x3 H w E I K,C.Shape v->C.Own O v->Td C np vals i O v->C.fk i A O d (rg C.r i c C.dc ao len cap n u x1 F x3 H w E I K []) v):∀{b} {l},gF lq b l->∀O v u x1 F x3 H w E I K,wL C np vals ao len cap i b u x1 F x3 H w E I K O v->C.Shape v->C.Own O v->O n->Bx ao len cap n v->C.fk i A O d (rg C.r i c C.dc ao len cap n u x1 F x3 H w E I K l) v:=by
 intro b l Y;induction Y with
 | @nil b h=>intro O v u x1 F x3 H w E I K hI hv z t W;have nl:=fun {j:Nat}=>Zt (j:=j) hI.sz h;have q0:=nl (j:=0) a9h (by rw[Oj];exact(by simp));have q1:=nl (j:=1) a9h (by rw[Eu];exact(fj.2 ⟨q0,a9i⟩));have q2:=nl (j:=2) a9h (by rw[Ew];exact(fj.2 ⟨q1,a9i⟩));have q3:=nl (j:=3) a9h (by rw[Ex];exact(fj.2 ⟨q2,a9i⟩));have q4:=nl (j:=4) a9h (by rw[Ol];exact(by simp));have q5:=nl (j:=5) a9h (by rw[Om];exact(by simp));have q6:=nl (j:=6) a9h (by rw[Oo];exact(by simp));have q7:=nl (j:=7) a9h (by rw[Aw];exact(fj.2 ⟨q5,(fj.2 ⟨q6,a9i⟩)⟩));have q8:=nl (j:=8) a9h (by rw[Ax];exact(fj.2 ⟨q3,(fj.2 ⟨q4,(fj.2 ⟨q0,(fj.2 ⟨q1,(fj.2 ⟨q2,(fj.2 ⟨q3,(fj.2 ⟨q4,(fj.2 ⟨q5,(fj.2 ⟨q6,(fj.2 ⟨q7,a9i⟩)⟩)⟩)⟩)⟩)⟩)⟩)⟩)⟩)⟩));have q9:=nl (j:=9) a9h (by rw[wS];exact(fj.2 ⟨q8,(fj.2 ⟨q7,(fj.2 ⟨q7,(fj.2 ⟨q0,(fj.2 ⟨q1,(fj.2 ⟨q2,(fj.2 ⟨q3,(fj.2 ⟨q4,(fj.2 ⟨q5,(fj.2 ⟨q6,(fj.2 ⟨q7,a9i⟩)⟩)⟩)⟩)⟩)⟩)⟩)⟩)⟩)⟩)⟩));exact X O v _ _ _ _ _ _ _ _ _ hv z (hI.h9 q9)
 | @cons b j l h _ Q=>
  intro O v u x1 F x3 H w E I K hI hv z t W;obtain⟨hj,o⟩:=a1n h;have R:∀v',C.Fr i O v v'->Bx ao len cap n v':=λv' g=>by unfold Bx at W⊢;rw[g.own n t];exact W
  have q:(b.setIfInBounds j true).size=10:=by simpa using hI.sz
  have a:∀{k:Nat},k≠j->(b.setIfInBounds j true).getD k false=true->b.getD k false=true:=λhk hx=>(UG hx).resolve_left hk;have p:∀{k:Nat},b.getD k false=true->(b.setIfInBounds j true).getD k false=true:=λhk=>UF hk
  match j,hj with
  |0,_=>refine iL rfl λv' g=>⟨_,#[],by rw[J.P];exact a1K ..,a9i,?_⟩;have f:=hI.frame g;exact Q O v' _ _ _ _ _ _ _ _ _ ⟨q,λ_=>rfl,λe=>f.h1 (a a9h e),λe=>f.h2 (a a9h e),λe=>f.h3 (a a9h e),λe=>f.h4 (a a9h e),λe=>f.h5 (a a9h e),λe=>f.h6 (a a9h e),λe=>f.h7 (a a9h e),λe=>f.h8 (a a9h e),λe=>f.h9 (a a9h e),λe=>p (hI.p9 (a a9h e))⟩ g.shape (ls z g.size) t (R v' g)
  |1,_=>have Z:=hI.h0 (o 0 (by rw[Eu];simp));subst Z;refine iL rfl λv' g=>⟨_,#[],by rw[J.P];exact a1L ..,a9i,?_⟩;have f:=hI.frame g;exact Q O v' _ _ _ _ _ _ _ _ _ ⟨q,λe=>rfl,λ_=>rfl,λe=>f.h2 (a a9h e),λe=>f.h3 (a a9h e),λe=>f.h4 (a a9h e),λe=>f.h5 (a a9h e),λe=>f.h6 (a a9h e),λe=>f.h7 (a a9h e),λe=>f.h8 (a a9h e),λe=>f.h9 (a a9h e),λe=>p (hI.p9 (a a9h e))⟩ g.shape (ls z g.size) t (R v' g)
  |2,_=>have Z:=hI.h1 (o 1 (by rw[Ew];simp));subst Z;refine iL rfl λv' g=>⟨_,#[],by rw[J.P];exact a1M ..,a9i,?_⟩;have f:=hI.frame g;exact Q O v' _ _ _ _ _ _ _ _ _ ⟨q,λe=>f.h0 (a a9h e),λe=>rfl,λ_=>rfl,λe=>f.h3 (a a9h e),λe=>f.h4 (a a9h e),λe=>f.h5 (a a9h e),λe=>f.h6 (a a9h e),λe=>f.h7 (a a9h e),λe=>f.h8 (a a9h e),λe=>f.h9 (a a9h e),λe=>p (hI.p9 (a a9h e))⟩ g.shape (ls z g.size) t (R v' g)
  |3,_=>
   have Z:=hI.h2 (o 2 (by rw[Ex];simp));subst Z;refine iL rfl λv' g=>⟨rg C.r i c C.dc ao len cap n u x1 (.pointer (some ⟨C.r,0,none⟩)) (.slice (some ⟨C.tb,0,none⟩) C.n C.n) H w E I K l,#[⟨.cell ⟨C.r,0,none⟩,false,false⟩],?_,λe he=>by rw[l8 he];exact Ti g.shape,?_⟩
   .exact by have B:=jv (v:=.slice (some ⟨C.tb,0,none⟩) C.n C.n) (a1N C.r i c C.dc ao len cap n u x1 x3 H w E I K l v') (by rw[qm (a3F g.shape)];rfl) (zo ..);rw[a1O]at B;rw[J.P];exact B.trans (congrArg (λx=>GStep.go _ v' x) a9k)
   .have f:=hI.frame g;exact Q O v' _ _ _ _ _ _ _ _ _ ⟨q,λe=>f.h0 (a a9h e),λe=>f.h1 (a a9h e),λe=>rfl,λ_=>rfl,λe=>f.h4 (a a9h e),λe=>f.h5 (a a9h e),λe=>f.h6 (a a9h e),λe=>f.h7 (a a9h e),λe=>f.h8 (a a9h e),λe=>f.h9 (a a9h e),λe=>p (hI.p9 (a a9h e))⟩ g.shape (ls z g.size) t (R v' g)
  |4,_=>refine iL rfl λv' g=>⟨_,#[],by rw[J.P];exact a1P ..,a9i,?_⟩;have f:=hI.frame g;exact Q O v' _ _ _ _ _ _ _ _ _ ⟨q,λe=>f.h0 (a a9h e),λe=>f.h1 (a a9h e),λe=>f.h2 (a a9h e),λe=>f.h3 (a a9h e),λ_=>rfl,λe=>f.h5 (a a9h e),λe=>f.h6 (a a9h e),λe=>f.h7 (a a9h e),λe=>f.h8 (a a9h e),λe=>f.h9 (a a9h e),λe=>p (hI.p9 (a a9h e))⟩ g.shape (ls z g.size) t (R v' g)
  |5,_=>refine iL rfl λv' g=>⟨_,#[],by rw[J.P];exact a1Q ..,a9i,?_⟩;have f:=hI.frame g;exact Q O v' _ _ _ _ _ _ _ _ _ ⟨q,λe=>f.h0 (a a9h e),λe=>f.h1 (a a9h e),λe=>f.h2 (a a9h e),λe=>f.h3 (a a9h e),λe=>f.h4 (a a9h e),λ_=>rfl,λe=>f.h6 (a a9h e),λe=>f.h7 (a a9h e),λe=>f.h8 (a a9h e),λe=>f.h9 (a a9h e),λe=>p (hI.p9 (a a9h e))⟩ g.shape (ls z g.size) t (R v' g)
  |6,_=>
   refine iL rfl λv' g=>⟨rg C.r i c C.dc ao len cap n u x1 F x3 H w (.agg #[.slice ao len cap]) I K l,#[⟨.cell ⟨n,0,none⟩,false,false⟩],?_,λe he=>by rw[l8 he];exact Gz t (ls z g.size n t).2.2.2.2,?_⟩
   .have ae:=R v' g;exact by have B:=jv (v:=.agg #[.slice ao len cap]) (a1R C.r i c C.dc ao len cap n u x1 F x3 H w E I K l v') (by rw[qm (a9p ae 0)];rfl) (zo ..);rw[a1S]at B;rw[J.P];exact B.trans (congrArg (λx=>GStep.go _ v' x) a9k)
   .have f:=hI.frame g;exact Q O v' _ _ _ _ _ _ _ _ _ ⟨q,λe=>f.h0 (a a9h e),λe=>f.h1 (a a9h e),λe=>f.h2 (a a9h e),λe=>f.h3 (a a9h e),λe=>f.h4 (a a9h e),λe=>f.h5 (a a9h e),λ_=>rfl,λe=>f.h7 (a a9h e),λe=>f.h8 (a a9h e),λe=>f.h9 (a a9h e),λe=>p (hI.p9 (a a9h e))⟩ g.shape (ls z g.size) t (R v' g)
  |7,_=>
   have e5:=hI.h5 (o 5 (by rw[Aw];simp));have e6:=hI.h6 (o 6 (by rw[Aw];simp));subst e5 e6;have n7:b.getD 7 false=false:=by
    have B:=(ze h).2.1;have V:7<b.size:=by have:=hI.sz;omega
    rw[io,eY V]at B⊢;exact B
   have n9:b.getD 9 false=false:=by
    cases e:b.getD 9 false with
    |false=>rfl
    |true=>have:=hI.p9 e;rw[n7]at this;cases this
   refine a4W J hi hv z t W λO' v' x ap aq ar au hx=>?_;refine Q O' v' _ _ _ _ _ _ _ _ _ ⟨q,λe=>hI.h0 (a a9h e),λe=>hI.h1 (a a9h e),λe=>hI.h2 (a a9h e),λe=>hI.h3 (a a9h e),λe=>hI.h4 (a a9h e),λ_=>rfl,λ_=>rfl,λ_=>hx,λe=>hI.h8 (a a9h e),λe=>(by have:=a a9h e;rw[n9]at this;cases this),λe=>(by have:=a a9h e;rw[n9]at this;cases this)⟩ ap aq ar au
  |8,_=>
   have e3:=hI.h3 (o 3 (by rw[Ax];simp));have e4:=hI.h4 (o 4 (by rw[Ax];simp));subst e3 e4;refine iL rfl λv' g=>⟨rg C.r i c C.dc ao len cap n u x1 F (.slice (some ⟨C.tb,0,none⟩) C.n C.n) (.int .i64 i) w E I (.pointer (some ⟨C.tb,i,none⟩)) l,#[],?_,a9i,?_⟩
   .exact by have B:=jv (v:=.pointer (some ⟨C.tb,i,none⟩)) (a1V C.r i c C.dc ao len cap n u x1 F w E I K l v' C.tb C.n) (V5 hi) (zo ..);rw[a1W]at B;rw[J.P];exact B.trans (congrArg (λx=>GStep.go _ v' x) a9k)
   .have f:=hI.frame g;exact Q O v' _ _ _ _ _ _ _ _ _ ⟨q,λe=>f.h0 (a a9h e),λe=>f.h1 (a a9h e),λe=>f.h2 (a a9h e),λe=>rfl,λe=>rfl,λe=>f.h5 (a a9h e),λe=>f.h6 (a a9h e),λe=>f.h7 (a a9h e),λ_=>rfl,λe=>f.h9 (a a9h e),λe=>p (hI.p9 (a a9h e))⟩ g.shape (ls z g.size) t (R v' g)
  |9,_=>
   have e8:=hI.h8 (o 8 (by rw[wS];simp));have e7:=hI.h7 (o 7 (by rw[wS];simp));obtain⟨a7,T,s,av⟩:=Jt e7;subst e8 av;refine tM rfl λv' g=>?_;obtain⟨tc,ht,aP⟩:=g.shape.tb;have V:=cV ht;have S:∀c,c≠C.tb->(v'.setCell ⟨C.tb,i,none⟩ (.slice a7 T s)).heap[c]?=v'.heap[c]? :=λc U=>qW U;have L:(v'.setCell ⟨C.tb,i,none⟩ (.slice a7 T s)).heap.size=v'.heap.size:=by simp[World.setCell]
   have M:=gz ht i (.slice a7 T s);have N:∀c,O c->(v'.setCell ⟨C.tb,i,none⟩ (.slice a7 T s)).heap[c]?=v.heap[c]? :=λc U=>by rw[S c (z c U).2.2.1];exact g.own c U
   have ab:C.Shape (v'.setCell ⟨C.tb,i,none⟩ (.slice a7 T s)):=by
    refine⟨?_,⟨_,M,by simpa using aP⟩,λc U=>?_,g.shape.os,by rw[L];exact g.shape.dl⟩
    .rw[S _ J.ge.2.2.2];exact g.shape.rb
    .rw[S c (by have:=J.ge.2.1;omega)];exact g.shape.old c U
   refine⟨rg C.r i c C.dc ao len cap n u x1 F x3 H w E (.slice a7 T s) (.pointer (some ⟨C.tb,i,none⟩)) l,v'.setCell ⟨C.tb,i,none⟩ (.slice a7 T s),#[⟨.cell ⟨C.tb,i,none⟩,true,false⟩],?_,⟨by rw[L];exact az _,λc _ _ U=>S c U,⟨tc,_,ht,M,a9i,λj hj=>by rw[dw (λe=>hj e.symm)]⟩,rfl,λe he=>by rw[l8 he];exact Tj (by rw[L];exact V)⟩,?_⟩
   .exact by have B:=Ay (a1X C.r i c C.dc ao len cap n u x1 F x3 H w E l v' C.tb a7 T s) (by rw[DL a9i a9i ((a9p ht i).trans (eY a9h)) (uP ht i)];rfl) (zo ..);rw[a1Y]at B;rw[J.P];exact B.trans (congrArg (λx=>GStep.go _ _ x) a9k)
   .rw[L,sA];have ad:=vP e7 N ab.old λ_ h=>h;exact Q O _ _ _ _ _ _ _ _ _ _ ⟨q,λe=>hI.h0 (a a9h e),λe=>hI.h1 (a a9h e),λe=>hI.h2 (a a9h e),λe=>hI.h3 (a a9h e),λe=>hI.h4 (a a9h e),λe=>hI.h5 (a a9h e),λe=>hI.h6 (a a9h e),λ_=>ad,λe=>rfl,λ_=>⟨_,_,M,by rw[lG a9h],ad⟩,λ_=>p (o 7 (by rw[wS];simp))⟩ ab (ls z (by rw[L];exact g.size)) t (by unfold Bx at W⊢;rw[N n t];exact W)
end
section
variable{C:aI}{D:Nat->Prop}{ai:Nat->Nat}{y:aa}{ap ao:Option aF}{len cap np:Nat}{vals:Nat->List aj}{i c n:Nat}{A:kP}{O:Nat->Prop}{d:Nat}{v:aa}
def pZ{K b o cs}:(pX K b o cs).status=.running/\(pY K b o cs).status=.running/\(xy K b o cs).status=.running/\(lW K b o cs).status=.running:=by cases K<;>exact⟨a9k,a9k,a9k,a9k⟩
def Br{B m}(b:(MemAct.ofEvent ⟨.mark m,false,true⟩).touch?=none)(f:(MemAct.ofEvent ⟨.mark m,false,true⟩).low B)(g:m≠.release ⟨C.r,4,none⟩):∀e∈(#[⟨.mark m,false,true⟩]:Array aT),C.Ev i O B e:=by intro e h;rw[l8 h];exact⟨λx a=>(by rw[b]at a;cases a),f,by simpa using g⟩
def Fz(e:C.P=⟨Tryz.progTables,Tryz.funcs⟩){K o}(f:o<6){cs}(g:C.Shape v)(h:∀b,C.Fr i O v b->C.fk i A O d (pY K C.r o cs) b):C.fk i A O d (uq K C.r o cs) v:=by refine jS (by rw[e];exact QC K C.r o cs) (λb j=>?_) g;refine iL pZ.1 λk a=>⟨_,#[],?_,a9i,h k (j.trans a)⟩;obtain⟨x,l⟩:=zL a.shape o f;rw[e];exact QB K C.r o cs l
def QD(e:C.P=⟨Tryz.progTables,Tryz.funcs⟩){K o cs}(h:∀j,C.Fr i O v j->A O 1 (lW K C.r o cs) j):C.fk i A O 0 (pY K C.r o cs) v:=by refine iL pZ.2.1 λk a=>⟨ur K C.r o cs,#[⟨.mark (.releaseMerge ⟨C.r,o,none⟩),false,true⟩],by rw[e];exact Fv K C.r o cs k,Br rfl (zM a.shape) a9i,?_⟩;refine jS (by rw[e];exact Fw K C.r o cs) (λq f=>?_) a.shape;refine iL pZ.2.2.1 λl b=>⟨xz K C.r o cs,#[⟨.mark .disable,false,true⟩],by rw[e];exact Fu K C.r o cs l,Br rfl trivial a9i,?_⟩;refine jS (by rw[e];exact Fx K C.r o cs) (λp g=>?_) b.shape;exact z8 (h p (a.trans (f.trans (b.trans g))))
def a1o(b:C.P=⟨Tryz.progTables,Tryz.funcs⟩)(f:C.Shape v)(g:∀h,A O 0 (tO C.r i c C.dc) h):C.fk i A O 0 (Ac C.r i c) v:=by refine jS (by rw[b];exact a6h C.r i c) (λp j=>?_) f;refine iL a9k λq a=>⟨_,_,by rw[b];exact a6e C.r i c C.dc (Dz a.shape),λe k=>by rw[l8 k];exact GA a.shape,?_⟩;refine jS (by rw[b];exact a6i C.r i c C.dc) (λl o=>z8 (g l)) a.shape
def a6t(J:oE C D ai y ap ao len cap np vals)(hi:i<C.n)(T:C.Shape v)(hO:C.Own O v)(hA:∀O v S,Td C np vals i O v->A O 1 (lW false C.r 1 [mX C.r i c C.dc S,bf]) v):C.fk i A O 0 (D9 C.r i c C.dc ao len cap) v:=by
 refine jS (by rw[J.P];exact a6j C.r i c C.dc ao len cap) (λv1 U=>?_) T;refine tM a9k λf g=>⟨_,_,#[],by rw[J.P];exact a6f C.r i c C.dc ao len cap f,?_,?_⟩
 .obtain⟨l,k,_⟩:=g.shape.tb;exact⟨by show _<=(f.heap.push _).size;simp,λc o _ _=>km o,⟨l,l,k,(km (cV k)).trans k,rfl,λ_ _=>rfl⟩,rfl,a9i⟩
 have B:({f with heap:=f.heap.push (.cells #[.slice none 0 0] 120)}:aa).heap.size=f.heap.size+1:=by show(f.heap.push _).size=_;simp
 rw[B];have z:a9s O f.heap.size (f.heap.size+1) f.heap.size:=.inr ⟨az _,lK _⟩;have ad:C.r<f.heap.size/\C.tb<f.heap.size/\C.dc<f.heap.size:=by obtain⟨l,k,_⟩:=g.shape.tb;exact⟨zM g.shape,cV k,g.shape.dl⟩
 have ab:C.Shape {f with heap:=f.heap.push (.cells #[.slice none 0 0] 120)}:=by
  obtain⟨l,k,h2⟩:=g.shape.tb;refine⟨?_,⟨l,(km (cV k)).trans k,h2⟩,λc o=>?_,g.shape.os,by rw[B];omega⟩
  .obtain⟨a,b,c,d,V⟩:=g.shape.rb;exact⟨a,b,c,d,(km (cV V)).trans V⟩
  .rw[km (by have:=J.ge.1;omega)];exact g.shape.old c o
 have W:∀v3:aa,f.heap.size+1<=v3.heap.size->C.Own (a9s O f.heap.size (f.heap.size+1)) v3:=by
  rintro v3 V c (o|⟨k,h2⟩)
  .have:=hO c o;have:=U.size;have:=g.size;exact⟨a9h,a9h,a9h,a9h,a9h⟩
  .have:=J.ge;exact⟨a9h,a9h,a9h,a9h,a9h⟩
 generalize a9s O f.heap.size (f.heap.size+1)=E at*;generalize hN:f.heap.size=N at*;have F:({f with heap:=f.heap.push (.cells #[.slice none 0 0] 120)}:aa).heap[N]?=some (.cells #[.slice none 0 0] 120):=by rw[<-hN];exact JK
 generalize ({f with heap:=f.heap.push (.cells #[.slice none 0 0] 120)}:aa)=v3 at*;refine tM a9k λu h=>?_;have x:u.heap[N]?=some (.cells #[.slice none 0 0] 120):=by rw[h.own N z];exact F
 have p:∀c,c≠N->(u.setCell ⟨N,0,none⟩ (.slice ao len cap)).heap[c]?=u.heap[c]? :=λc o=>qW o;have q:(u.setCell ⟨N,0,none⟩ (.slice ao len cap)).heap.size=u.heap.size:=by simp[World.setCell]
 have H:=gz x 0 (.slice ao len cap);have w:=W u (by have:=h.size;omega);have s:=w N z;have I:C.Shape (u.setCell ⟨N,0,none⟩ (.slice ao len cap)):=by refine⟨by rw[p _ λe=>s.2.1 e.symm];exact h.shape.rb,by rw[p _ λe=>s.2.2.1 e.symm];exact h.shape.tb,λc o=>?_,h.shape.os,by rw[q];exact h.shape.dl⟩;rw[p c (by have:=s.1;omega)];exact h.shape.old c o
 refine⟨_,_,_,by rw[J.P];exact a6o C.r i c C.dc ao len cap N ((a9p x 0).trans rfl) (uP x 0),⟨by rw[q];exact az _,λc _ o _=>p c λe=>o (by rw[e];exact z),?_,rfl,λe he=>by rw[l8 he,q,sA];exact Gz z s.2.2.2.2⟩,?_⟩
 .obtain⟨l,k,_⟩:=h.shape.tb;exact⟨l,l,k,by rw[p _ λe=>s.2.2.1 e.symm];exact k,rfl,λ_ _=>rfl⟩
 rw[q,sA];have K:Bx ao len cap N (u.setCell ⟨N,0,none⟩ (.slice ao len cap)):=H;have X:C.Own E (u.setCell ⟨N,0,none⟩ (.slice ao len cap)):=ls w (by rw[q];exact az _);generalize u.setCell ⟨N,0,none⟩ (.slice ao len cap)=v5 at*;refine jS (by rw[J.P];exact a6k C.r i c C.dc ao len cap N) (λv6 L=>?_) I;refine tM a9k λt j=>⟨_,_,#[],by rw[J.P];exact a2a C.r i c C.dc ao len cap N t,?_,?_⟩
 .obtain⟨l,k,_⟩:=j.shape.tb;exact⟨az _,λ_ _ _ _=>rfl,⟨l,l,k,k,rfl,λ_ _=>rfl⟩,rfl,a9i⟩
 have M:Bx ao len cap N ({t with drawn:=t.drawn+1}:aa):=by show t.heap[N]?=_;rw[(L.trans j).own N z];exact K
 have Q:C.Shape ({t with drawn:=t.drawn+1}:aa):=⟨j.shape.rb,j.shape.tb,j.shape.old,j.shape.os,j.shape.dl⟩;have Y:C.Own E ({t with drawn:=t.drawn+1}:aa):=ls X (L.trans j).size;rw[show a9s E t.heap.size ({t with drawn:=t.drawn+1}:aa).heap.size=E from sA _ _];refine a1s (d:=0) J hi (λO v x0 x1 x2 x3 x4 x5 x6 x7 x8 T hO hT=>?_) (Kj (P:=Tryz.prog) a9k _) E _ _ _ _ _ _ _ _ _ _ ⟨by rw[zO];simp,?_,?_,?_,?_,?_,?_,?_,?_,?_,?_,?_⟩ Q Y z M
 .refine jS (by rw[J.P];exact a1Z C.r i c C.dc ao len cap N x0 x1 x2 x3 x4 x5 x6 x7 x8) (λv' hf=>?_) T;refine Fz J.P a9h hf.shape λae R=>QD J.P λv3 Z=>?_;exact hA O v3 ⟨ao,len,cap,N,x0,x1,x2,x3,x4,x5,x6,x7,x8⟩ (tE hT (hf.trans (R.trans Z)))
 all_goals(intro e;rw[zO]at e;simp at e)
def OV(b:C.P=⟨Tryz.progTables,Tryz.funcs⟩){S}(j:C.Shape v)(k:∀h,C.Fr i O v h->A O 0 (Ec C.r i c C.dc S) h):C.fk i A O 0 (LU C.r i c C.dc S) v:=by refine jS (by rw[b];exact a6l ..) (λp f=>?_) j;refine iL (a6a ..) λq a=>⟨_,_,by rw[b];exact a5Z _ _ _ _ _ _ _ _ _ _ _ _ _ _ _ _ _ (Dz a.shape),λe l=>by rw[l8 l];exact GA a.shape,?_⟩;refine jS (by rw[b];exact a6m ..) (λo g=>z8 (k o (f.trans (a.trans g)))) a.shape
def Gl(e:C.P=⟨Tryz.progTables,Tryz.funcs⟩){k f g S q m}(o:aR Tryz.prog false m k f)(p:f.status=.running)(s:∀w,stepG Tryz.prog false f w=.go g w #[⟨.mark .enable,false,true⟩])(t:aR Tryz.prog false q g (LU C.r i c C.dc S))(u:C.Shape v)(x:∀l,C.Fr i O v l->A O 0 (Ec C.r i c C.dc S) l):C.fk i A O 1 k v:=by refine jS (by rw[e];exact o) (λE h=>?_) u;refine iL p λz a=>⟨g,#[⟨.mark .enable,false,true⟩],by rw[e];exact s z,Br rfl trivial a9i,?_⟩;refine jS (by rw[e];exact t) (λF b=>?_) a.shape;exact OV e b.shape λB j=>x B (h.trans (a.trans (b.trans j)))
def a0P{P n g g'}(h:aR P false n g g')(a:g'.status=.finished):QuitsD P n 0 g:=by
 induction h with
 |nil=>exact⟨a,rfl⟩
 |cons b e _ f=>exact .ctl b e (f a)
def a0O{P n q d g g'}(h:aR P false n g g')(a:QuitsD P q d g'):QuitsD P (n+q) d g:=by
 induction h with
 |nil=>rw[dC];exact a
 |cons b e _ f=>rw[b0k];exact .ctl b e (f a)
def JQ{P}{n q:Nat}{g1 a b e m}(f:aR P false m g1 a)(g:a.status=.running)(h:∀w,stepG P false a w=.go b w #[⟨.mark .enable,false,true⟩])(j:aR P false q b e)(k:e.status=.finished):QuitsD P (m+(q+1)) 1 g1:=
 a0O f (.said ⟨.mark .enable,false,true⟩ rfl g h (a0P j k))
end
section
variable(C:aI)(K:Bool)(bx:Nat)(L:List aj)(cs:List ah)(ao:Option aF)(len cap np:Nat)(vals:Nat->List aj)
def Cf(o:Nat)(cf:ah):Prop:=(o=1/\∃u,cf=xC K bx C.r C.n u L)\/(o=4/\∃u,cf=uv K bx C.r C.n u L)
noncomputable def ii:ci C where
 tv:=.agg #[.slice ao len cap]
 zS:=undef
 zT:=zT
 zD:=.agg #[]
 MK k g:=k<C.n/\∃u,g=am (p6 K bx C.r C.n k u L) cs
 GO k c g:=k<C.n/\∃u,g=am (p5 K bx C.r C.n k u L c) cs
 SN k c g:=k<C.n/\∃u,g=am (rW K bx C.r C.n k u L c ao len cap) cs
 LW o g:=∃cf u,Cf C K bx L o cf/\g=oj C.r o (cf::cs) u
 CA o m g:=∃cf u,Cf C K bx L o cf/\(1<=m/\m<=8)/\g=jr C.r o (cf::cs) u ((m:Int)*KK)
 SA o g:=∃cf u,∃m:Nat,Cf C K bx L o cf/\(1<=m/\m<=8)/\g=jT C.r o (cf::cs) u ((m:Int)*KK)
 LD o g:=∃cf u,∃m:Nat,Cf C K bx L o cf/\(1<=m/\m<=8)/\g=mY C.r o (cf::cs) u ((m:Int)*KK)
 AQ o g:=∃cf u,Cf C K bx L o cf/\(g=wy C.r o (cf::cs) u\/∃m:Nat,(1<=m/\m<=8)/\g=ry C.r o (cf::cs) u ((m:Int)*KK))
 CL g:=∃u,g=am (nH K bx C.r C.n u L C.dc) cs
 FN g:=∃m u,aR Tryz.prog true m g (am ((uv K bx C.r C.n u L).finish (.tuple #[])) cs)
 S1 i c g:=i<C.n/\g=tO C.r i c C.dc
 AD o i c g:=(o=1/\∃S,g=lW false C.r 1 [mX C.r i c C.dc S,bf])\/(o=4/\∃S,g=lW true C.r 4 [mn C.r i c C.dc S,bf])
 LA o i c g:=(o=1/\∃S,g=nD false C.r 1 [mX C.r i c C.dc S,bf])\/(o=4/\∃S,g=nD true C.r 4 [mn C.r i c C.dc S,bf])
 LB o i c g:=(o=1/\∃S,g=nE false C.r 1 [mX C.r i c C.dc S,bf])\/(o=4/\∃S,g=nE true C.r 4 [mn C.r i c C.dc S,bf])
 LC o i c g:=(o=1/\∃S,g=lV false C.r 1 [mX C.r i c C.dc S,bf])\/(o=4/\∃S,g=lV true C.r 4 [mn C.r i c C.dc S,bf])
 S2 i c g:=∃S,g=Ec C.r i c C.dc S
 RL i c g:=∃S,g=pY true C.r 4 [mn C.r i c C.dc S,bf]
 TD i O v:=Td C np vals i O v
end
section
variable{C:aI}{K:Bool}{bx:Nat}{L:List aj}{cs:List ah}{ao:Option aF}{len cap np:Nat}{vals:Nat->List aj}
def dp(c:C.P=⟨Tryz.progTables,Tryz.funcs⟩){main E m d b g g' X}(h:aR Tryz.prog main m g g')(k:C.To main E d g' b X):C.To main E d g b X:=by obtain⟨i,a,e,f⟩:=k;exact⟨_,a,(a0M (by rw[c];exact h)).trans e,f⟩
def mW(c:C.P=⟨Tryz.progTables,Tryz.funcs⟩){main E d b g g' X}(es)(f:g.status=.running)(h:∀v,C.Shape v->stepG Tryz.prog main g v=.go g' v es)(i:∀e∈es,E e)(k:C.To main E (deafBehind d es) g' b X):C.To main E d g b X:=by obtain⟨o,a,j,l⟩:=k;exact⟨_,a,.cons es f (λv n=>by rw[c];exact h v n) i j,l⟩
def gW{main E d g X}(h:X g):C.To main E d g d X:=⟨0,g,.nil,h⟩
def Bp{m}(b:(MemAct.ofEvent ⟨.mark m,false,true⟩).touch?=none)(c:(MemAct.ofEvent ⟨.mark m,false,true⟩).low (C.r+1))(d:m≠.release ⟨C.r,4,none⟩):∀e∈(#[⟨.mark m,false,true⟩]:Array aT),C.dS e:=by intro e f;rw[l8 f];exact⟨λx a=>(by rw[b]at a;cases a),c,by simpa using d⟩
def Gy{a}(h:C.common (.cell a))(c:a.block<C.r+1):∀e∈(#[⟨.cell a,false,false⟩]:Array aT),C.dS e:=by intro e d;rw[l8 d];exact⟨λx b _=>(by simp only[MemAct.ofEvent,MemAct.touch?,cK]at b;subst b;exact .inl ⟨h,rfl⟩),c,a9i⟩
def Tf{o}(b:o=1\/o=2\/o=4\/o=5):∀e∈(#[⟨.mark (.write ⟨C.r,o,none⟩),false,true⟩]:Array aT),C.dS e:=by intro e c;rw[l8 c];exact⟨λx a _=>(by simp only[MemAct.ofEvent,MemAct.touch?,cK]at a;subst a;exact .inr ⟨EC b,rfl⟩),lK _,a9i⟩
def D7(a:C.P=⟨Tryz.progTables,Tryz.funcs⟩){o cf}(b:Cf C K bx L o cf):C.To true C.dS 0 (wx C.r o (cf::cs)) 1 ((ii C K bx L cs ao len cap np vals).LW o):=by refine dp a (a7c C.r o (cf::cs)) (mW a #[⟨.mark .disable,false,true⟩] a9k (λv _=>a7b C.r o (cf::cs) v) (Bp rfl trivial a9i) ?_);obtain⟨u,c⟩:=a7d C.r o (cf::cs);exact dp a c (dp a (L0 C.r o (cf::cs) u) (gW ⟨cf,u,b,rfl⟩))
def Xx(a:C.P=⟨Tryz.progTables,Tryz.funcs⟩){o cf u}(b:Cf C K bx L o cf):C.To true C.dS 1 (wq C.r o (cf::cs) u) 1 ((ii C K bx L cs ao len cap np vals).LW o):=dp a (L0 C.r o (cf::cs) u) (gW ⟨cf,u,b,rfl⟩)
def xf{o cf}(a:Cf C K bx L o cf):o=1\/o=4:=a.elim (λh=>.inl h.1) λh=>.inr h.1
def Es(a:C.P=⟨Tryz.progTables,Tryz.funcs⟩){o q cf}(d:Cf C K bx L o cf){b}(e:aR Tryz.prog true q b (am (cf.finish (.tuple #[])) cs)):(o=1->C.To true C.dS 0 b 0 (ii C K bx L cs ao len cap np vals).CL)/\(o=4->(ii C K bx L cs ao len cap np vals).FN b):=by
 refine⟨λc=>?_,λc=>?_⟩
 .subst c;obtain⟨_,u,rfl⟩|⟨h,_⟩:=d
  .refine dp a e ?_;obtain⟨u1,f⟩:=Rx K bx C.r C.n u L cs;refine dp a f ?_;obtain⟨u2,g⟩:=Q4 K bx C.r C.n u1 L cs C.dc;refine mW a #[⟨.cell ⟨C.r,3,none⟩,false,false⟩] rfl (λv i=>?_) (Gy (.inr (.inr rfl)) (lK _)) (gW ⟨u2,g⟩);have:=jv (v:=.chan (some C.dc)) (Q3 K bx C.r C.n u1 L cs v) (by rw[qm (Dz i)];rfl) (Q5 K bx C.r C.n u1 L cs);exact this.trans (congrArg (λx=>GStep.go _ v x) a9k)
  .cases h
 .subst c;obtain⟨h,_⟩|⟨_,u,rfl⟩:=d
  .cases h
  .exact⟨q,u,e⟩
def Ak{b o cs u}:(oj b o cs u).status=.running/\(Ai b o cs u).status=.running/\(rz b o cs u).status=.running/\(wy b o cs u).status=.running/\(Aj b o cs u).status=.running/\(kC b o cs u 0).status=.running:=⟨a9k,a9k,a9k,a9k,a9k,a9k⟩
theorem a6B{b o cs u s}:(kC b o cs u s).status=.running:=by kernel_rfl
def iX{Kd b o cs}:(nD Kd b o cs).status=.running/\(xq Kd b o cs).status=.running/\(nE Kd b o cs).status=.running/\(xu Kd b o cs).status=.running/\(lV Kd b o cs).status=.running/\(rR Kd b o cs).status=.running/\(xx Kd b o cs).status=.running/\(nF Kd b o cs 1).status=.running:=by cases Kd<;>exact⟨a9k,a9k,a9k,a9k,a9k,a9k,a9k,a9k⟩
end
theorem f205:Tryz.prog.funcs[205]?=some Tryz.f205:=by kernel_rfl
theorem Tu:(Tryz.f205.name== "runtime.NumGoroutine")=false:=by kernel_rfl
theorem Ts:Tryz.f205.body.isNone=true:=by kernel_rfl
theorem Tv:Extern.findNext Tryz.f205=none:=by kernel_rfl
theorem Tt:Extern.find Tryz.f205=some Extern.Sync.semrelease:=by kernel_rfl
noncomputable def a1t(Kd:Bool)(b o:Nat)(cs:List ah):Array Operand:=match (ct (lV Kd b o cs)).op with
 | .call c=>c.args
 |_=> #[]
def Fp{Kd b o cs w x}(a:w.cell? ⟨b,o+1,none⟩=some (.int .u32 x))(c:w.frozen? ⟨b,o+1,none⟩=false):stepG Tryz.prog false (lV Kd b o cs) w=.go (rR Kd b o cs) (w.setCell ⟨b,o+1,none⟩ (.int .u32 (IntKind.u32.wrap (x+1)))) (semEvents ⟨b,o+1,none⟩):=
 a3v (Qx Kd b o cs) (show(ct (lV Kd b o cs)).op=.call {callee:=.value (.func 205),args:=a1t Kd b o cs,argTypes:=#[316,4,3]}by cases Kd<;>kernel_rfl) f205 Tu Ts Tv Tt (by cases Kd<;>kernel_rfl) a c
def Fs{Kd b o cs}:mayWake Tryz.prog (lV Kd b o cs)=true:=by cases Kd<;>kernel_rfl
def P8{w c}(h:w.heap[c]?=some (.chan 0 #[] false 0 0 false)):(do pure (Next.value (<-Builtin.close_ #[252] 0 #[.chan (some c)])):Sem Next).runT Tryz.prog w #[]=(.ok (.value (.tuple #[])) (w.setChan c 0 #[] true 0 0 false),#[⟨.obj c,false,true⟩,⟨.obj c,true,true⟩]):=by
 have a:=run_close_open (P:=Tryz.prog) (w:=w) #[252] 0 h;have b:=events_close_open (P:=Tryz.prog) (w:=w) (es:=#[]) #[252] 0 h;refine jY ?_ ?_
 .rw[Sem.runT_fst,Sem.run_bind,a];rfl
 .show Sem.events Tryz.prog _ w #[]=_;rw[Sem.events_bind,a,b];rfl
section
variable{C:aI}{K:Bool}{bx:Nat}{L:List aj}{cs:List ah}{D:Nat->Prop}{ai:Nat->Nat}{y:aa}{l ao:Option aF}{len cap np:Nat}{vals:Nat->List aj}
def Xy(a:C.P=⟨Tryz.progTables,Tryz.funcs⟩){o cf u}(c:Cf C K bx L o cf):C.To true C.dS 1 (kC C.r o (cf::cs) u 0) 0 ((ii C K bx L cs ao len cap np vals).AQ o):=by have d:=Ak (b:=C.r) (o:=o) (cs:=cf::cs) (u:=u);refine dp a (a7j C.r o (cf::cs) u) (mW a #[⟨.mark .enable,false,true⟩] d.2.1 (λv _=>a7h C.r o (cf::cs) u v) (Bp rfl trivial a9i) ?_);refine dp a (a7k C.r o (cf::cs) u) (mW a #[] d.2.2.1 (λv e=>?_) a9i (gW ⟨cf,u,c,.inl rfl⟩));obtain⟨x,f⟩:=zL e o (by obtain h|h:=xf c<;>omega);exact a7g C.r o (cf::cs) u f
def Xw(c:C.P=⟨Tryz.progTables,Tryz.funcs⟩){o cf u}(d:Cf C K bx L o cf)(m:Nat)(a:1<=m)(b:m<=8):C.To true C.dS 1 (kC C.r o (cf::cs) u ((m:Int)*KK)) 1 ((ii C K bx L cs ao len cap np vals).CA o m):=
 dp c (wn C.r o (cf::cs) u m a b).s1 (gW ⟨cf,u,d,⟨a,b⟩,rfl⟩)
def Xt(a:C.P=⟨Tryz.progTables,Tryz.funcs⟩){o cf u}(v s)(h:v.cell? (C.ca o)=some (.int .u64 s)):stepG C.P true (oj C.r o (cf::cs) u) v=.go (kC C.r o (cf::cs) u s) v #[kn C o]:=by rw[a];exact a6D C.r o (cf::cs) u h
def Xv(J:oE C D ai y l ao len cap np vals):∀o g,(ii C K bx L cs ao len cap np vals).LW o g->g.status=.running/\∃c:Int->aw,(∀v s,v.cell? (C.ca o)=some (.int .u64 s)->stepG C.P true g v=.go (c s) v #[kn C o])/\(c 0).status=.running/\C.To true C.dS 1 (c 0) 0 ((ii C K bx L cs ao len cap np vals).AQ o)/\∀m:Nat,1<=m->m<=8->(c (m*KK)).status=.running/\C.To true C.dS 1 (c (m*KK)) 1 ((ii C K bx L cs ao len cap np vals).CA o m):=by rintro o g ⟨cf,u,j,e⟩;rw[e];refine⟨(Ak (b:=C.r) (o:=o) (cs:=cf::cs) (u:=u)).1,?_⟩;have f:=Xt (cs:=cs) (cf:=cf) (u:=u) (o:=o) J.P;have h:=Xy (cs:=cs) (ao:=ao) (len:=len) (cap:=cap) (np:=np) (vals:=vals) (u:=u) J.P j;have i:=Xw (cs:=cs) (ao:=ao) (len:=len) (cap:=cap) (np:=np) (vals:=vals) (u:=u) J.P j;have d:∀s:Int,(kC C.r o (cf::cs) u s).status=.running:=λs=>a6B;revert f h i d;generalize kC C.r o (cf::cs) u=G;intro f h i d;exact⟨G,f,d 0,h,λm a b=>⟨d _,i m a b⟩⟩
def a0H(J:oE C D ai y l ao len cap np vals)(hn:C.n<=8)(hbx:C.v0.heap[bx]?=some (.cells #[.slice ao len cap] 120))(hb0:bx<C.B0)(hsb: ¬C.SB bx):(ii C K bx L cs ao len cap np vals).Ok where
 td:=λi O v v' h hf=>tE h hf
 vD:=by rintro k g ⟨hk,u,hgo⟩;rw[hgo];refine⟨rfl,λc=>fin (am (p6 K bx C.r C.n k u L) cs) (.chan (some c)),λv _=>by rw[J.P];exact Ra K bx C.r C.n k u L cs v,λc=>⟨rfl,?_⟩⟩;obtain⟨u1,h1⟩:=Q9 K bx C.r C.n k u L cs c;exact dp J.P h1 (gW ⟨hk,u1,rfl⟩)
 go:=by
  rintro k c g ⟨hk,u,hgo⟩;rw[hgo];refine⟨rfl,_,_,λv=>by rw[J.P];exact QZ K bx C.r C.n k u L cs v c,?_,λv hv=>?_⟩
  .obtain⟨u1,h1⟩:=QY K bx C.r C.n k u L cs c;obtain⟨u2,h2⟩:=Q7 K bx C.r C.n k u1 L cs c ao len cap;refine dp J.P h1 (mW J.P #[⟨.cell ⟨bx,0,none⟩,false,false⟩] rfl (λv hv=>?_) (Gy (.inl ⟨hb0,hsb⟩) (by have:=J.ge.1;simp only;omega)) (gW ⟨hk,u2,h2⟩));have hc:v.cell? ⟨bx,0,none⟩=some (.slice ao len cap):=(a9p ((hv.old bx hb0).trans hbx) 0).trans rfl;have:=jv (v:=.agg #[.slice ao len cap]) (Q6 K bx C.r C.n k u1 L cs v c) (by rw[qm hc];rfl) (Q8 K bx C.r C.n k u1 L cs c);exact this.trans (congrArg (λx=>GStep.go _ v x) a9k)
  .refine jS (by rw[J.P];exact PO C.r k c) (λv' hf=>a1o J.P hf.shape λv''=>⟨⟨hk,rfl⟩,rfl⟩) hv
 sn:=by
  rintro k c g ⟨hk,u,hgo⟩;rw[hgo];have hwrap:IntKind.i64.wrap ((k:Int)+1)=((k+1:Nat):Int):=by
   have:k=0\/k=1\/k=2\/k=3\/k=4\/k=5\/k=6\/k=7:=a9h
   obtain rfl|rfl|rfl|rfl|rfl|rfl|rfl|rfl:=this<;>decide
  obtain⟨u1,h1⟩:=Ru K bx C.r C.n k u L cs c ao len cap;rw[hwrap]at h1;obtain⟨u2,h2⟩:=FD K bx C.r C.n (k+1) u1 L cs;refine⟨rfl,λv=>by rw[J.P];exact Rv K bx C.r C.n k u L cs v c ao len cap,λhlt=>?_,λhe=>?_⟩
  .have hd:decide (((k+1:Nat):Int)<(C.n:Int))=true:=a9l
   rw[hd]at h2;obtain⟨u3,h3⟩:=FB K bx C.r C.n (k+1) u2 L cs;rw[J.P];exact dp J.P h1 (dp J.P h2 (dp J.P h3 (gW ⟨hlt,u3,rfl⟩)))
  .have hd:decide (((k+1:Nat):Int)<(C.n:Int))=false:=a9l
   rw[hd]at h2;obtain⟨u3,h3⟩:=FA K bx C.r C.n (k+1) u2 L cs;rw[J.P];exact dp J.P h1 (dp J.P h2 (dp J.P h3 (D7 J.P (.inl ⟨rfl,u3,rfl⟩))))
 lw:=Xv J
 ca:=by
  rintro o m g ⟨cf,u,hc,hm,hgo⟩;rw[hgo];have F:=wn C.r o (cf::cs) u m hm.1 hm.2;obtain⟨r1,r2,rm,r3,r4,r6,r7,r8,r9,rA,rC,rD,rE⟩:=F.run;refine⟨r1,rq C.r o (cf::cs) u (m*KK),rj C.r o (cf::cs) u (m*KK),λv h1 h2=>by rw[J.P];exact F.jD v h1 h2,λv x h1 h2 h3=>by rw[J.P];exact F.vC v x h1 h2 h3,⟨r2,?_⟩,⟨rm,?_⟩⟩
  .refine dp J.P F.s2 (mW J.P #[] r3 (λv hv=>?_) a9i (mW J.P #[⟨.mark (.write ⟨C.r,o+1,none⟩),false,true⟩] r4 (λv _=>F.wr v) (Tf (by obtain h|h:=xf hc<;>subst h<;>simp)) (dp J.P F.s5 (gW ⟨cf,u,m,hc,hm,rfl⟩))));obtain⟨x,hx⟩:=zL hv (o+1) (by obtain h|h:=xf hc<;>omega);exact F.conv v x hx
  .obtain⟨u',h'⟩:=F.again;exact dp J.P h' (Xx J.P hc)
 sa:=by rintro o g ⟨cf,u,m,hc,hm,hgo⟩;rw[hgo];have F:=wn C.r o (cf::cs) u m hm.1 hm.2;obtain⟨r1,r2,rm,r3,r4,r6,r7,r8,r9,rA,rC,rD,rE⟩:=F.run;exact⟨r6.1,r6.2,tT C.r o (cf::cs) u (m*KK),λv x h1 h2 h3=>by rw[J.P];exact F.qj v x h1 h2 h3,λv h1=>by rw[J.P];exact F.wait v h1,r7,dp J.P F.s7 (gW ⟨cf,u,m,hc,hm,rfl⟩)⟩
 ld:=by rintro o g ⟨cf,u,m,hc,hm,hgo⟩;rw[hgo];have F:=wn C.r o (cf::cs) u m hm.1 hm.2;obtain⟨r1,r2,rm,r3,r4,r6,r7,r8,r9,rA,rC,rD,rE⟩:=F.run;refine⟨r8,rx C.r o (cf::cs) u (m*KK),λv h1=>by rw[J.P];exact F.ld v h1,r9,?_⟩;refine dp J.P F.s9 (mW J.P #[⟨.mark .enable,false,true⟩] rA (λv _=>F.en v) (Bp rfl trivial a9i) (dp J.P F.sB (mW J.P #[] rC (λv hv=>?_) a9i (gW ⟨cf,u,hc,.inr ⟨m,hm,rfl⟩⟩))));obtain⟨x,hx⟩:=zL hv o (by obtain h|h:=xf hc<;>omega);exact F.E9 v x hx
 aq:=by
  rintro o g ⟨cf,u,hc,hgo|⟨m,hm,hgo⟩⟩<;>rw[hgo]
  .exact⟨Ak.2.2.2.1,Aj C.r o (cf::cs) u,λv _=>by rw[J.P];exact a7f C.r o (cf::cs) u v,Ak.2.2.2.2.1,Es J.P hc (a7i C.r o cs u cf)⟩
  .have F:=wn C.r o (cf::cs) u m hm.1 hm.2;obtain⟨r1,r2,rm,r3,r4,r6,r7,r8,r9,rA,rC,rD,rE⟩:=F.run;exact⟨rD,jU C.r o (cf::cs) u (m*KK),λv _=>by rw[J.P];exact F.acq v,rE,Es J.P hc (F.ret cf cs rfl)⟩
 cl:=by
  rintro g ⟨u,hgo⟩;rw[hgo];refine⟨rfl,by rw[J.P];exact QV K bx C.r C.n u L cs C.dc,fin (am (nH K bx C.r C.n u L C.dc) cs) (.tuple #[]),rfl,λv hv=>?_,?_⟩
  .have:=jv (v:=.tuple #[]) (QS K bx C.r C.n u L cs v C.dc) (P8 hv) (QT K bx C.r C.n u L cs C.dc);rw[J.P];exact this.trans (congrArg (λx=>GStep.go _ _ x) a9k)
  .obtain⟨u1,h1⟩:=QU K bx C.r C.n u L cs C.dc;exact dp J.P h1 (D7 J.P (.inr ⟨rfl,u1,rfl⟩))
 s1:=by rintro i c g ⟨hi,hgo⟩;rw[hgo];refine⟨a9k,λv=>by rw[J.P];exact a6n C.r i c C.dc v,λO v hv hO=>?_⟩;rw[J.P];exact a6t (A:=(ii C K bx L cs ao len cap np vals).wQ i c) J hi hv hO λO v S hT=>⟨.inl ⟨rfl,S,rfl⟩,rfl,hT⟩
 ad:=by
  rintro o i c g (⟨rfl,S,hgo⟩|⟨rfl,S,hgo⟩)<;>rw[hgo]
  .refine⟨pZ.2.2.2,λs=>nF false C.r 1 [mX C.r i c C.dc S,bf] s,λv s h1 h2=>by rw[J.P];exact Ft false C.r 1 _ h1 h2,⟨iX.2.2.2.2.2.2.2,dp J.P (Fi false C.r 1 _) (gW (.inl ⟨rfl,S,rfl⟩))⟩,λ_ m b h1 h2 h3=>⟨(xp C.r 1 _ false h1 h2 h3).run.1,λO v hv hO hT=>?_⟩,λh=>(by cases h)⟩;have F:=xp C.r 1 [mX C.r i c C.dc S,bf] false h1 h2 h3;exact Gl J.P F.s1 F.run.2 F.en (QL C.r 1 [bf] (mX C.r i c C.dc S) h1 h2 h3) hv λv' hf=>⟨⟨S,rfl⟩,rfl,tE hT hf⟩
  .refine⟨pZ.2.2.2,λs=>nF true C.r 4 [mn C.r i c C.dc S,bf] s,λv s h1 h2=>by rw[J.P];exact Ft true C.r 4 _ h1 h2,⟨iX.2.2.2.2.2.2.2,dp J.P (Fi true C.r 4 _) (gW (.inr ⟨rfl,S,rfl⟩))⟩,λh=>(by cases h),λ_ m b h1 h2 h3=>⟨(xp C.r 4 _ true h1 h2 h3).run.1,?_⟩⟩;have F:=xp C.r 4 [mn C.r i c C.dc S,bf] true h1 h2 h3;obtain⟨g,hg,hf⟩:=QJ C.r i c C.dc S h1 h2 h3;rw[J.P];exact⟨_,JQ (n:=0) F.s1 F.run.2 F.en hg hf⟩
 la:=by
  rintro o i c g (⟨rfl,S,hgo⟩|⟨rfl,S,hgo⟩)<;>rw[hgo]
  .exact⟨iX.1,_,λv h=>by rw[J.P];exact Fh false C.r 1 _ h,iX.2.1,dp J.P (Fj false C.r 1 _) (gW (.inl ⟨rfl,S,rfl⟩))⟩
  .exact⟨iX.1,_,λv h=>by rw[J.P];exact Fh true C.r 4 _ h,iX.2.1,dp J.P (Fj true C.r 4 _) (gW (.inr ⟨rfl,S,rfl⟩))⟩
 lb:=by
  rintro o i c g (⟨rfl,S,hgo⟩|⟨rfl,S,hgo⟩)<;>rw[hgo]
  .exact⟨iX.2.2.1,_,λv x h1 h2=>by rw[J.P];exact Fq false C.r 1 _ h1 h2,iX.2.2.2.1,dp J.P (Fl false C.r 1 _) (gW (.inl ⟨rfl,S,rfl⟩))⟩
  .exact⟨iX.2.2.1,_,λv x h1 h2=>by rw[J.P];exact Fq true C.r 4 _ h1 h2,iX.2.2.2.1,dp J.P (Fl true C.r 4 _) (gW (.inr ⟨rfl,S,rfl⟩))⟩
 lc:=by
  rintro o i c g (⟨rfl,S,hgo⟩|⟨rfl,S,hgo⟩)<;>rw[hgo]
  .refine⟨iX.2.2.2.2.1,by rw[J.P];exact Fs,rR false C.r 1 [mX C.r i c C.dc S,bf],iX.2.2.2.2.2.1,λv x h1 h2=>by rw[J.P];exact Fp h1 h2,λ_ O v hv hO hT=>?_,λh=>(by cases h)⟩;exact Gl J.P (Fo false C.r 1 _) iX.2.2.2.2.2.2.1 (Fg false C.r 1 _) (Qy C.r 1 [bf] (mX C.r i c C.dc S)) hv λv' hf=>⟨⟨S,rfl⟩,rfl,tE hT hf⟩
  .refine⟨iX.2.2.2.2.1,by rw[J.P];exact Fs,rR true C.r 4 [mn C.r i c C.dc S,bf],iX.2.2.2.2.2.1,λv x h1 h2=>by rw[J.P];exact Fp h1 h2,λh=>(by cases h),λ_=>?_⟩;obtain⟨g,hg,hf⟩:=a0N C.r i c C.dc S.ao S.len S.k S.n S.x0 S.x1 S.x2 S.x3 S.x4 S.x5 S.x6 S.x7 S.x8;rw[J.P];exact⟨_,JQ (n:=0) (Fo true C.r 4 _) iX.2.2.2.2.2.2.1 (Fg true C.r 4 _) hg hf⟩
 s2:=by rintro i c g ⟨S,hgo⟩;rw[hgo];refine⟨a6b ..,λv=>by rw[J.P];exact a6c ..,λO v hv hO hT=>?_⟩;rw[J.P];refine jS (by rw[J.P];exact a6g C.r i c C.dc S.ao S.len S.k S.n S.x0 S.x1 S.x2 S.x3 S.x4 S.x5 S.x6 S.x7 S.x8) (λv1 hf1=>?_) hv;exact Fz J.P a9h hf1.shape λv2 hf2=>z8 ⟨⟨S,rfl⟩,rfl,tE hT (hf1.trans hf2)⟩
 rl:=by rintro i c g ⟨S,hgo⟩;rw[hgo];refine⟨pZ.2.1,ur true C.r 4 [mn C.r i c C.dc S,bf],λv=>by rw[J.P];exact Fv true C.r 4 _ v,a9k,?_⟩;exact dp J.P (Fw true C.r 4 _) (mW J.P #[⟨.mark .disable,false,true⟩] pZ.2.2.1 (λv _=>Fu true C.r 4 _ v) (λe he=>by rw[l8 he];rfl) (dp J.P (Fx true C.r 4 _) (gW (.inr ⟨rfl,S,rfl⟩))))
end
theorem AT:∀n,cnt (λ_=>true) n=n
 |0=>rfl
 |n+1=>by rw[cnt,AT n];rfl
noncomputable def gt(n N0 r tb dc B0:Nat)(SB:Nat->Prop)(v0:aa):aI:={P:=⟨Tryz.progTables,Tryz.funcs⟩,n,N0,r,tb,dc,B0,SB,tr:=260,tt:=46,v0}
noncomputable def v9(C:aI)(sp:SP)(m0:Nat)(q:Nat->Nat):St:=
 {sp,m0,ph:=λ_=>.unborn,rk:=λ_=>.leaf,q,cb:=λ_=>0,cls:=λc=>if c<C.B0 then .old else if c=C.r\/c=C.tb\/c=C.dc then .sh else .free,G1:=.idle,G2:=.idle}
section
variable{C:aI}{p:ci C}{sp:SP}{m0:Nat}{q:Nat->Nat}{gs:Array aw}{v:aa}{t:bm}{g:aw}
def Wj(e:(∃h:0<C.n,sp=.mk 0)\/(C.n=0/\sp=.lw false))(S:C.n<=8)(h0:gs[0]?=some g)(M:gs.size=C.N0)(T:p.fX (v9 C sp m0 q) (Deaf t 0) g)(N:Leavers C.P t gs q)(E:Past (cn C.SB) v.heap.size t)(hrel:NoRelease (C.ca 4) t)(O:C.v0=v)(Q:v.heap[C.r]?=some (C.fg ((C.n:Int)*KK) 0 ((C.n:Int)*KK) 0))(l:∃B,v.heap[C.tb]?=some (.cells B C.tt)/\B.size=C.n)(w:v.heap[C.dc]?=some (.chan 0 #[] false 0 0 false))(F:C.B0<=C.r/\C.B0<=C.tb/\C.B0<=C.dc/\C.r≠C.tb/\C.r≠C.dc/\C.tb≠C.dc)(Z:C.B0<=v.heap.size):p.Inv t (v9 C sp m0 q) gs v t:=by
 have o:sp.aU C.n=0:=by obtain⟨_,rfl⟩|⟨h,rfl⟩:=e<;>first|rfl|exact h
 have z:sp.made C.n=0:=by obtain⟨_,rfl⟩|⟨h,rfl⟩:=e<;>first|rfl|exact h
 have A:sp.closed=false:=by obtain⟨_,rfl⟩|⟨h,rfl⟩:=e<;>rfl
 have a1:C.a1 (v9 C sp m0 q)=C.n:=AT _;have a2:C.a2 (v9 C sp m0 q)=C.n:=AT _;have lr:=(bz.1 Q).1;obtain⟨B,l,H⟩:=l;have lt:=(bz.1 l).1;have ld:=(bz.1 w).1;refine⟨?_,?_,⟨g,h0,T⟩,λj x U _ V=>N.old j x U V,λi x d=>?_,N.above,?_,?_,?_,?_⟩
 .rw[<-M];exact(bz.1 h0).1
 .show gs.size=C.N0+sp.aU C.n;rw[o,M];rfl
 .have d:i<sp.aU C.n:=d;rw[o]at d;exact absurd d (lL _)
 .refine⟨?_,⟨B,l,H⟩,?_,λc _=>by rw[O],by rw[O],λi d=>?_⟩
  .rw[a1,a2];exact Q
  .show v.heap[C.dc]?=some (.chan 0 #[] sp.closed 0 0 false);rw[A];exact w
  .have d:i<sp.made C.n:=d;rw[z]at d;exact absurd d (lL _)
 .refine⟨λc R=>if_pos R,⟨?_,?_,?_⟩,λc R=>?_,λi d=>?_,λc i h=>?_,F⟩
  .show(if C.r<C.B0 then Cl.old else _)=_;rw[if_neg a9h,if_pos (.inl rfl)]
  .show(if C.tb<C.B0 then Cl.old else _)=_;rw[if_neg a9h,if_pos (.inr (.inl rfl))]
  .show(if C.dc<C.B0 then Cl.old else _)=_;rw[if_neg a9h,if_pos (.inr (.inr rfl))]
  .show(if c<C.B0 then Cl.old else _)=_;rw[if_neg a9h,if_neg a9h]
  .have d:i<sp.made C.n:=d;rw[z]at d;exact absurd d (lL _)
  .have h:(if c<C.B0 then Cl.old else if c=C.r\/c=C.tb\/c=C.dc then .sh else .free)=.wk i:=h;split at h
   .cases h
   .split at h<;>cases h
 .refine⟨S,?_,λi d=>?_,λi _ h=>(by cases h),λi _ h=>(by cases h),λ_ i _=>(by show 7<=Ph.unborn.num;decide),λh=>?_,λi _=>⟨⟨λh=>(by cases h),λh=>(by cases h)⟩,⟨λh=>(by cases h),λh=>(by cases h)⟩,⟨λh=>(by cases h),λh=>(by cases h)⟩⟩,λi h=>?_,λi _=>⟨⟨λh=>(by cases h),λh=>(by cases h)⟩,⟨λh=>(by cases h),λh=>(by cases h)⟩,⟨λh=>(by cases h),λh=>(by cases h)⟩⟩,λi h=>?_,trivial,trivial,?_,?_,λb m h=>?_⟩
  .rcases e with⟨h,rfl⟩|⟨_,rfl⟩
   .exact h
   .trivial
  .show(Ph.unborn=.unborn↔sp.aU C.n<=i);rw[o];exact⟨λ_=>iP _,λ_=>rfl⟩
  .have h:sp.closed=true:=h;rw[A]at h;cases h
  .rcases h with h|h|h<;>cases h
  .rcases h with h|h|h<;>cases h
  .rcases e with⟨_,rfl⟩|⟨_,rfl⟩<;>exact rfl
  .rcases e with⟨_,rfl⟩|⟨_,rfl⟩<;>exact rfl
  .rcases e with⟨_,rfl⟩|⟨_,rfl⟩<;>cases h
 .have I:∀i (s:MemOp),t.size<=i->t[i]?=some s->False:=λi s d f=>by have:=(bz.1 f).1;omega
  refine⟨⟨#[],a9i⟩,⟨E.clean,λk a _ W X i d=>?_,λk s a Y f=>(I k s Y f).elim⟩,λi s d f=>(I i s d f).elim,λi s d f=>(I i s d f).elim,hrel,E.seen,λi _ h=>(by cases h)⟩;obtain rfl|⟨h1,J⟩:=d
  .exact E.known k a W X
  .have J:i<C.N0+sp.aU C.n:=J;rw[o]at J;omega
end
section
variable{K:Bool}{n:Nat}{L:List aj}{cs:List ah}{ao au:Option aF}{len cap np:Nat}{vals:Nat->List aj}{SB D:Nat->Prop}{ai:Nat->Nat}{y v:aa}{u:Nat->aj}
def SW(H:n<=8)(s:∀c,SB c->c<v.heap.size)(hJ:∀N0 r a b k,v.heap.size<r/\v.heap.size<a/\v.heap.size<b/\r≠a/\r≠b/\a≠b->(∀c,c<v.heap.size->k.heap[c]?=v.heap[c]?)->oo k=oo v->oE (gt n N0 r a b (v.heap.size+1) SB k) D ai y au ao len cap np vals){gs t q}(sl)(h0:gs[0]?=some (am (ut K n u L ao len cap) cs))(hL:Leavers Tryz.prog t gs q)(O:Past (cn SB) v.heap.size t):∃N f w l x,runNT Tryz.prog N (crowd gs v sl) t=(.next (crowd f w l),x)/\∃r a b k z g',(v.heap.size<r/\v.heap.size<a/\v.heap.size<b/\r≠a/\r≠b/\a≠b)/\(∀c,c<v.heap.size->k.heap[c]?=v.heap[c]?)/\oo k=oo v/\(ii (gt n gs.size r a b (v.heap.size+1) SB k) K v.heap.size L cs ao len cap np vals).End f w x z g':=by
 obtain⟨N,Q,A,t1,q1,R,e,d1,B,S,U,V,W,o,X,r,a,b,u1,E⟩:=a0J (K:=K) (L:=L) (cs:=cs) (ao:=ao) (len:=len) (cap:=cap) (u:=u) (SB:=SB) (v:=v) H gs t q sl v.drawn h0 hL (dE.of O) O.hears;have hg:=E.g;have hd:=E.d;subst hd;have J:=hJ gs.size r a b e E.ge E.old E.os;have Y:=a0H (K:=K) (bx:=v.heap.size) (L:=L) (cs:=cs) J H E.box (lK _) (λh=>oC _ (s _ h));have hrel:NoRelease (⟨r,4,none⟩:aF) t1:=X _ λi hi=>by obtain⟨op,ho,ha⟩:=gn.1 hi;have:=O.seen op (ou ho);rw[ha]at this;have h:r<v.heap.size:=this;have:=E.ge.1;omega
 have P1:=W.ai o;have fin:∀(sp:SP) (m0:Nat),((∃h:0<n,sp=.mk 0)\/(n=0/\sp=.lw false))->(ii (gt n gs.size r a b (v.heap.size+1) SB e) K v.heap.size L cs ao len cap np vals).fX (v9 (gt n gs.size r a b (v.heap.size+1) SB e) sp m0 q1) (Deaf t1 0) R->_:=λsp m0 Z hS=>by have I:=Wj (C:=gt n gs.size r a b (v.heap.size+1) SB e) (p:=ii (gt n gs.size r a b (v.heap.size+1) SB e) K v.heap.size L cs ao len cap np vals) Z H U S hS V P1 hrel rfl E.rF ⟨_,E.a4N,by simp;rfl⟩ E.Qr ⟨E.ge.1,E.ge.2.1,E.ge.2.2.1,E.ge.2.2.2⟩ (by show v.heap.size+1<=e.heap.size;rw[E.size];omega);exact Qo Y (λc hc=>b0m (s c hc)) P1.over I A
 have ab:∃N f w l x,runNT Tryz.prog N (crowd Q e A) t1=(.next (crowd f w l),x)/\∃z g',(ii (gt n gs.size r a b (v.heap.size+1) SB e) K v.heap.size L cs ao len cap np vals).End f w x z g':=by
  obtain⟨u2,F⟩:=FD K v.heap.size r n 0 u1 L cs;obtain hz|j:=kN n
  .have hb:decide (((0:Nat):Int)<(n:Int))=false:=by rw[hz];rfl
   rw[hb]at F;obtain⟨u3,hC⟩:=FA K v.heap.size r n 0 u2 L cs;have T:(gt n gs.size r a b (v.heap.size+1) SB e).To true (gt n gs.size r a b (v.heap.size+1) SB e).dS 0 R 1 ((ii (gt n gs.size r a b (v.heap.size+1) SB e) K v.heap.size L cs ao len cap np vals).LW 1):=by rw[hg];exact dp J.P F (dp J.P hC (D7 J.P (.inl ⟨rfl,u3,rfl⟩)))
   obtain⟨m,g2,hQ,ad⟩:=T;exact fin (.lw false) m (.inr ⟨hz,rfl⟩) ⟨g2,by rw[o];exact hQ,ad⟩
  .have hb:decide (((0:Nat):Int)<(n:Int))=true:=by simpa using j
   rw[hb]at F;obtain⟨u3,hC⟩:=FB K v.heap.size r n 0 u2 L cs;have T:(gt n gs.size r a b (v.heap.size+1) SB e).To true (gt n gs.size r a b (v.heap.size+1) SB e).dS 0 R 0 ((ii (gt n gs.size r a b (v.heap.size+1) SB e) K v.heap.size L cs ao len cap np vals).MK 0):=by rw[hg];exact dp J.P F (dp J.P hC (gW ⟨j,u3,rfl⟩))
   obtain⟨m,g2,hQ,ae⟩:=T;exact fin (.mk 0) m (.inl ⟨j,rfl⟩) ⟨g2,by rw[o];exact hQ,ae⟩
 obtain⟨M,ap,v2,aq,t2,ar,z,g',hE⟩:=ab;exact⟨N+M,ap,v2,aq,t2,qR B ar,r,a,b,e,z,g',E.ge,E.old,E.os,hE⟩
end
noncomputable def qE:aw:=am ((qD.callers.headD default).finish (.tuple #[])) []
noncomputable def a4y:List Item:=(aD Tryz.prog true 6 qE).frame.todo
noncomputable def a0L:aw:=fin (aD Tryz.prog true 6 qE) (.slice (some ⟨4,0,none⟩) 2 2)
noncomputable def a4t:List Item:=((aD Tryz.prog true 1 a0L).callers.headD default).todo
section
variable(K:Bool)(bx r n:Nat)(u:Nat->aj)(L:List aj)(cs:List ah)
noncomputable def rT:ah:=an K (.int .i64 n::u 1::u 2:: .pointer (some ⟨bx,0,none⟩)::u 4:: .pointer (some ⟨r,0,none⟩)::sq u 6 42 (.pointer (some ⟨r,0,none⟩)::u 49::u 50::L)) a4y
noncomputable def p4:ah:=an K (.int .i64 n::u 1::u 2:: .pointer (some ⟨bx,0,none⟩)::u 4:: .pointer (some ⟨r,0,none⟩)::sq u 6 45 L) a4t
variable(w:aa)(tb:Nat)(x:aj)
def Ry:∃a,aR Tryz.prog true 6 (am ((uv K bx r n u L).finish (.tuple #[])) cs) (am (rT K bx r n a L) cs):=⟨uo (aD Tryz.prog true 6 (am ((uv K bx r n u L).finish (.tuple #[])) cs)),by cases K<;>exact eN⟩
def Q0:stepG Tryz.prog true (am (rT K bx r n u L) cs) w=stepG.apply Tryz.prog true (am (rT K bx r n u L) cs).frame cs none (.load .plain ⟨r,0,none⟩ λv=>.pure (.value v)) w:=by cases K<;>kernel_rfl
def Q1:((am (rT K bx r n u L) cs).frame.kind==.early)=false:=by cases K<;>kernel_rfl
def Q2:∃a,aR Tryz.prog true 1 (fin (am (rT K bx r n u L) cs) (.slice (some ⟨tb,0,none⟩) n n)) (am (Frame.enter Tryz.prog 156 #[.slice (some ⟨tb,0,none⟩) n n] .normal) (p4 K bx r n a L::cs)):=⟨uo (am ((aD Tryz.prog true 1 (fin (am (rT K bx r n u L) cs) (.slice (some ⟨tb,0,none⟩) n n))).callers.headD default) []),by cases K<;>exact eN⟩
end
section
variable{K:Bool}{n:Nat}{L:List aj}{cs:List ah}{ao ap:Option aF}{len cap np:Nat}{vals:Nat->List aj}{SB D:Nat->Prop}{ai:Nat->Nat}{y v:aa}{u:Nat->aj}
def VS{C}{p:ci C}{s v}(h:p.Hp s v)(c):p.Hp s (v.at c):=⟨h.rb,h.tb,h.dc,h.old,h.os,h.ch⟩
def a4O{C np vals i O v}(h:Td C np vals i O v)(c):Td C np vals i O (v.at c):=by obtain⟨b,x,d,e,a⟩:=h;exact⟨b,x,d,e,vP a (λ_ _=>rfl) a.2.2.1 λ_ h=>h⟩
structure My (C:aI) (p:ci C) (s:St) (gs:Array aw) (v:aa) (t:bm) (q:Nat->Nat):Prop where
 size:gs.size=C.N0+C.n
 iZ:Leavers C.P t gs q
 ai:Past (cn λc=>C.SB c\/c=C.r) v.heap.size t
 hp:p.Hp s v
 cls:C.dx s v.heap.size
 told:∀i,i<C.n->p.TD i (s.own i) v
def SV(hn:n<=8)(k:∀c,SB c->c<v.heap.size)(hJ:∀N0 r tb b d,v.heap.size<r/\v.heap.size<tb/\v.heap.size<b/\r≠tb/\r≠b/\tb≠b->(∀c,c<v.heap.size->d.heap[c]?=v.heap[c]?)->oo d=oo v->oE (gt n N0 r tb b (v.heap.size+1) SB d) D ai y ap ao len cap np vals){gs t q}(sl)(h0:gs[0]?=some (am (ut K n u L ao len cap) cs))(hL:Leavers Tryz.prog t gs q)(hP:Past (cn SB) v.heap.size t):∃N f B C t' q',runNT Tryz.prog N (crowd gs v sl) t=(.next (crowd f B C),t')/\∃r tb b d s' u',(v.heap.size<r/\v.heap.size<tb/\v.heap.size<b/\r≠tb/\r≠b/\tb≠b)/\(∀c,c<v.heap.size->d.heap[c]?=v.heap[c]?)/\oo d=oo v/\f[0]?=some (am (Frame.enter Tryz.prog 156 #[.slice (some ⟨tb,0,none⟩) n n] .normal) (p4 K v.heap.size r n u' L::cs))/\My (gt n gs.size r tb b (v.heap.size+1) SB d) (ii (gt n gs.size r tb b (v.heap.size+1) SB d) K v.heap.size L cs ao len cap np vals) s' f B t' q':=by
 obtain⟨N,F,j,H,t1,I,r,tb,b,d,s,g,o,p,J,E⟩:=SW (K:=K) (L:=L) (cs:=cs) (u:=u) hn k hJ sl h0 hL hP;obtain⟨m,u1,z⟩:=E.fn;obtain⟨u2,O⟩:=Ry K v.heap.size r n u1 L cs;obtain⟨u3,P⟩:=Q2 K v.heap.size r n u2 L cs tb;have G:jZ Tryz.prog (λl=>cn SB l\/(gt n gs.size r tb b (v.heap.size+1) SB d).oH l) g j 0 λg' B d'=>g'=am (Frame.enter Tryz.prog 156 #[.slice (some ⟨tb,0,none⟩) n n] .normal) (p4 K v.heap.size r n u3 L::cs)/\d'=0/\∃c,B=j.at c:=by
  refine ib z λc1=>ib O λc2=>ff rfl λQ=>⟨_,((j.at c1).at c2).at Q,#[⟨.cell ⟨r,0,none⟩,false,false⟩],?_,az _,?_,ib P λc4=>uW λc5=>⟨rfl,rfl,c5,rfl⟩⟩
  .have R:(((j.at c1).at c2).at Q).cell? ⟨r,0,none⟩=some (.slice (some ⟨tb,0,none⟩) n n):=(a9p E.hp.rb 0).trans rfl;have:=jv (v:=.slice (some ⟨tb,0,none⟩) n n) (Q0 K v.heap.size r n u2 L cs (((j.at c1).at c2).at Q)) (by rw[qm R];rfl) (Q1 K v.heap.size r n u2 L cs);exact this.trans (congrArg (λx=>GStep.go _ _ x) a9k)
  .intro e he;simp only[lI,fM]at he;subst he;refine⟨⟨λx hx S=>?_,(bz.1 E.hp.rb).1⟩,λa=>by simp[MemAct.ofEvent]⟩;simp only[MemAct.ofEvent,MemAct.touch?,cK]at hx;subst hx;obtain h|h:=S
   .have h1:r<v.heap.size:=k r h;have:=o.1;omega
   .rcases h with h|h|h|h<;>cases h
 obtain⟨M,T,U,t2,q2,g2,v2,d2,V,W,A,X,Y,Z,_,ab,hd,c,ad⟩:=G F t1 s.q H j.drawn E.zero E.iZ (dE.of E.ai) E.ai.hears;rw[ab]at A;subst hd;have ae:=Y.ai Z;subst ad;refine⟨N+M,T,_,U,t2,q2,qR I V,r,tb,b,d,s,u3,o,p,J,A,⟨W.trans E.size,X,a0o ae λl R=>?_,VS E.hp c,E.cls,λi hi=>a4O (E.told i hi) c⟩⟩;obtain h|h:=R
 .cases l with
  |cell a=>exact .inl h
  |_=>exact h
 .rcases h with h|h|h|h<;>(rw[h];exact .inr rfl)
end
end Go.Proofs.Each
end
section
namespace Go.Proofs.Each
open Go.Conc Go.Mir Go.RowKit Go.Proofs.q
def rO(n np:Nat)(τ:Nat->Question->Nat)(d:Nat):Nat:=(Question.appendCap (n*np) 0 64).cut (τ d (.appendCap (n*np) 0 64))
def wC(n np:Nat)(vals:Nat->List aj)(cp B:Nat)(w':aa)(x:aj):Prop:=
 (n*np=0/\x=.slice none 0 0)\/(0<n*np/\x=.slice (some ⟨B,0,none⟩) (n*np) cp/\w'.heap[B]?=some (.cells (iD np n cp vals n) 64))
def E7.{u}(n np bt base:Nat)(tv:Nat->aj)(vals:Nat->List aj)(W:aa)(r:n<=8)(g:np<=100)(k:∀i,i<n->W.cell? ⟨bt,i,none⟩=some (tv i))(l:∀i,i<n->W.ownsRow base 64 2 (tv i) np (vals i))(p:∀i,i<n->∀u∈vals i,u.oneCell'=true):Calls Gh.prog.{u} 156 #[.slice (some ⟨bt,0,none⟩) n n] W λe w'=> ∃x,e=.returned x/\wC n np vals (rO n np W.tape W.drawn) W.heap.size w' x/\dz W.heap.size W w':=by
 by_cases h0:0<n/\0<np
 .refine(Qi.{u} n np bt n base tv vals W h0.1 a9h h0.2 g k l p).mono ?_;rintro e w' ⟨rfl,d,_,j⟩;exact⟨_,rfl,.inr ⟨b1B h0.1 h0.2,rfl,d⟩,dz.of j⟩
 .have q:n*np=0:=by
   obtain h|h:=kN n
   .simp[h]
   .rcases kN np with b|b
    .simp[b]
    .exact absurd ⟨h,b⟩ h0
  refine(E8.{u} n bt n W a9h (λi o=>?_)).mono ?_
  .have d:=k i o;obtain⟨a,c,e⟩:=dH (l i o);have:np=0:=by
    obtain b|b:=kN np
    .exact b
    .exact absurd ⟨a9h,b⟩ h0
   rw[e,this]at d;exact⟨a,c,d⟩
  .rintro e w' ⟨rfl,j⟩;exact⟨_,rfl,.inl ⟨q,rfl⟩,dz.of j⟩
def Tr:∃c,Tryz.f156.body=some c:=⟨_,rfl⟩
def xW:Gh.funcs.{1}[156]?=some Tryz.f156:=Gh.func156.{1}
theorem GD:Tryz.funcs[156]?=some Tryz.f156:=by kernel_rfl
theorem a9N:Tryz.progTables.inits.idxOf? 156=none:=by kernel_rfl
section
variable{S:Nat->Prop}{V:aa}{n np tb base:Nat}{tv:Nat->aj}{vals:Nat->List aj}{SB2:Nat->Prop}{f:ah}{cs:List ah}
def ME(n np:Nat)(vals:Nat->List aj)(U:aa)(x:aj)(w':aa):Prop:=(∃τ d,wC n np vals (rO n np τ d) U.heap.size w' x)/\dz U.heap.size U w'
def PB(hn:n<=8)(ba:np<=100)(v:iA Tryz.progTables.globals.size S V)(ab:∀b,b<Tryz.progTables.globals.size+1->S b)(M:S tb)(bb:∀c,S c->¬SB2 c)(ad:∀c,SB2 c->c<V.heap.size)(C:∀i,i<n->V.cell? ⟨tb,i,none⟩=some (tv i))(ho:∀i,i<n->V.ownsRow base 64 2 (tv i) np (vals i))(hb:∀i,i<n->∀a m m',tv i=.slice (some a) m m'->S a.block)(hv:∀i,i<n->∀u∈vals i,u.oneCell'=true)(N:∀g cp,(iD np n cp vals n).map (al g)=iD np n cp vals n):iQ Tryz.prog SB2 (am (Frame.enter Tryz.prog 156 #[.slice (some ⟨tb,0,none⟩) n n] .normal) (f::cs)) V 0 λg' v' d'=>d'=0/\∃x rb τ d,g'=am (f.finish x) cs/\dz V.heap.size V v'/\V.heap.size<=rb/\wC n np vals (rO n np τ d) rb v' x:=by
 let G:=Tryz.progTables.globals.size;have z:(bH S V).heap.size=V.heap.size:=by simp[bH]
 have hrel:cU G S id (bH S V) V:=by
  refine cU.mk (λb h=>by rw[z];exact v.lt b h) (λb h=>v.lt b h) (λa b _ _ h=>h) (λg D b h=>?_) λb o h ho=>?_
  .rw[ic h];cases y:V.heap[b]? with
   |none=>simp[y]
   |some o=>have:=v.aX g (λa b h=>D.inj a b h) (λc C=>D.on c C) b o h y;simp[y,this]
  .rw[ic h]at ho;exact(v.ok b o h ho).1
 have p:∀b o,(bH S V).heap[b]?=some o->(S b/\V.heap[b]?=some o)\/o=.cells #[] 0:=λb o h=>by
  by_cases K:S b
  .rw[ic K]at h;exact .inl ⟨K,h⟩
  .rw[vz K]at h;obtain⟨_,_,rfl⟩:=gn.1 h;exact .inr rfl
 have L:cA G (bH S V):=λb o h=>by
  obtain⟨E,A⟩|rfl:=p b o h
  .exact(v.ok b o E A).1
  .trivial
 have O:∀(b:Nat) o,(bH S V).heap[b]?=some o->thin o:=λb o h=>by
  obtain⟨E,A⟩|rfl:=p b o h
  .exact(v.ok b o E A).2
  .rfl
 have B:∀g:Nat->Nat,g tb=tb->(#[.slice (some ⟨tb,0,none⟩) n n]:Array aj).map (al g)=#[.slice (some ⟨tb,0,none⟩) n n]:=λg D=>by simp[aG,D]
 have P:Mir.Shut (bH S V) #[.slice (some ⟨tb,0,none⟩) n n]:=by
  intro g Y D;refine⟨B g (D tb (by rw[z];exact v.lt tb M)),λb o h=>?_⟩;obtain⟨E,A⟩|rfl:=p b o h
  .exact v.aX g Y (λc C=>D c (by rw[z];exact v.lt c C)) b o E A
  .simp[bu]
 have Q:∀i,i<n->(bH S V).cell? ⟨tb,i,none⟩=some (tv i):=λi Y=>by have:=C i Y;unfold World.cell? at this⊢;rw[ic M];exact this
 have ae:∀i,i<n->(bH S V).ownsRow base 64 2 (tv i) np (vals i):=λi Y=>by
  have h:=ho i Y;refine⟨h.1,?_⟩;obtain q1|⟨g,bc,bd,q1,q2,q3,q4⟩:=h.2
  .exact .inl q1
  .exact .inr ⟨g,bc,bd,q1,q2,by rw[ic (hb i Y _ _ _ q1)];exact q3,q4⟩
 obtain⟨cc,r⟩:=Tr;have ao:=GZ (T:=Tryz.progTables) (F:=Gh.funcs.{1}) (f:=156) (k:=2) (U:=bH S V) (args:=#[.slice (some ⟨tb,0,none⟩) n n]) (Rr:=ME n np vals (bH S V)) im.{1} vK.{1} xW r Tryz.results156 (by
   rw[z];have:=v.lt _ (ab Tryz.progTables.globals.size (lK _));omega) P L (λx w τ d h=>⟨h.1,⟨h.2.os,h.2.size,h.2.block⟩⟩) (λτ=>by
   refine(E7.{1} n np tb base tv vals (re (bH S V) τ 0) hn ba Q ae hv).mono ?_;rintro e w' ⟨x,rfl,E,A⟩;exact⟨⟨τ,0,E⟩,⟨A.os,A.size,A.block⟩⟩)
 have R:de Tryz.progTables (λ_=>False) (λ_=>dead) (f::cs) S id (bH S V) V (Frame.enter ⟨Tryz.progTables,Gh.funcs.{1}⟩ 156 #[.slice (some ⟨tb,0,none⟩) n n] .normal) [] (Frame.enter Tryz.prog 156 #[.slice (some ⟨tb,0,none⟩) n n] .normal) (f::cs):=by
  refine⟨bH S V,⟨rfl,rfl,rfl,rfl,rfl,λb _=>rfl,λb h=>h.elim,O⟩,hrel,rfl,λb h=>⟨ab b h,rfl⟩,L,vM im.{1} xW r _,λx y=>(by cases y),λg D=>⟨?_,rfl⟩⟩;have H:Frame.enter Tryz.prog 156 #[.slice (some ⟨tb,0,none⟩) n n] .normal=Frame.enter ⟨Tryz.progTables,Gh.funcs.{1}⟩ 156 #[.slice (some ⟨tb,0,none⟩) n n] .normal:=by have e1:Tryz.prog.funcs[156]?=some Tryz.f156:=GD;simp only[Frame.enter,xW,e1]
  rw[H];exact Df xW r g (B g (D.on tb M)).symm
 refine UH (a5d (Z:=λ_=>False) (SB:=SB2) ml.{1} im.{1} cL.{1} B5 (λfr fs w h=>h.2.2.1) ao S id V _ _ R (λb h=>h.elim) bb ad) ?_;rintro g1 v1 d1 ⟨rfl,ap,bo,w',D',j,I,aq,J⟩;obtain⟨rfl,E,A,h3,h4,⟨τ,d,ar⟩,W⟩:=J.stop;obtain⟨x',bl,Rr⟩:=J.rel;have au:∀b:Nat,x'.heap[b]?=w'.heap[b]? :=λb=>(bl.other b (λh=>h)).symm;have l:=aL Rr.heap 0;generalize (ag D' j (v1.heap.size+0))=g at l;have e0:=Rr.aX g l;have av:aq=f::cs:=by simpa using e0.2
 have s:∀q,aQ D' j q->I.tmps.getD 2 undef=al q (ap.tmps.getD 2 undef):=λq hq=>by rw[(Rr.aX q hq).1];simp only[aO,io,ip];cases ap.tmps[2]? <;>simp[undef]
 have t:dz V.heap.size V v1:=by
  refine⟨J.os,J.size,λc C=>?_⟩
  .by_cases K:S c
   .obtain⟨hD,hp⟩:=J.more c K;have hp:j c=c:=hp;have h5:=Rr.heap.obj g l c hD;rw[hp,au,W.block c (by rw[z];exact C),ic K]at h5;rw[h5];cases y:V.heap[c]? with
    |none=>rfl
    |some o=>
     have:=v.aX g (λa b h=>l.inj a b h) (λc C=>by
      obtain⟨q1,q2⟩:=J.more c C;rw[l.on c q1];exact q2) c o K y
     simp[this]
   .exact J.old c C λb hb X=>absurd (by have X:b=c:=X;rw[<-X];exact hb) K
 rw[J.g,av];refine ff rfl λc=>⟨am (f.finish (I.tmps.getD 2 undef)) cs,v1.at c,#[],J2 GD Tryz.results156 a9N (by rw[e0.1];exact E) (by rw[e0.1];simp[aO,A,dZ]) (by rw[e0.1];simp[aO,h3]) (by rw[e0.1];exact h4) (v1.at c),az _,a9i,uW λc'=>⟨rfl,?_⟩⟩;obtain⟨hz,y⟩|⟨hz,y,aP⟩:=ar
 .refine⟨I.tmps.getD 2 undef,V.heap.size,τ,d,rfl,⟨t.os,t.size,t.block⟩,az _,.inl ⟨hz,?_⟩⟩;rw[s g l,y];simp
 .have hD:=sO Rr.heap (b:=(bH S V).heap.size) (c:=g (bH S V).heap.size) (λq hq=>by
   have e1:=s q hq;have e2:=s g l;rw[e1,y]at e2;simp only[fh,bY,Value.slice.injEq,cK,aG,Addr.mk.injEq,and_true]at e2;exact e2.symm)
  have bn:V.heap.size<=j (bH S V).heap.size:=by
   obtain h|h:=J.new _ hD.1
   .have:=v.lt _ h;omega
   .exact h
  refine⟨I.tmps.getD 2 undef,j (bH S V).heap.size,τ,d,rfl,⟨t.os,t.size,t.block⟩,bn,.inr ⟨hz,?_,?_⟩⟩
  .rw[s g l,y];simp only[fh,bY,aG,hD.2]
  .have h5:=Rr.heap.obj g l _ hD.1;rw[au,aP]at h5;refine h5.trans ?_;simp only[bY,bu,N]
end
end Go.Proofs.Each
end
