import Derived.Test.YtdnpeefnobjfaaaGreatDoorK00
set_option maxRecDepth 100000
set_option maxHeartbeats 4000000
set_option linter.all false
section
namespace Go.Near
abbrev St:=Nat->Nat×Option Nat
def told(s:St)(n a:Nat):Nat:=if (s n).2=some a then 16 else (s n).1
def a9D(far:Nat->Nat->Nat)(s:St)(n a:Nat):Nat×Option Nat:=
 let t:=min (told s n a+far n a) 16
 if (s a).2=some n then (t,some n)else if t<(s a).1 then (t,some n)else s a
def a9A(far:Nat->Nat->Nat)(dst n:Nat)(s:St):St:=λa=>if far n a≠0/\a≠n/\a≠dst then a9D far s n a else s a
def ez(far:Nat->Nat->Nat)(dst:Nat):Nat->St->St
 |0,s=>s
 |k+1,s=>a9A far dst k (ez far dst k s)
def a9E(far:Nat->Nat->Nat)(dst N:Nat):Nat->St->St
 |0,s=>s
 |k+1,s=>ez far dst N (a9E far dst N k s)
structure eT (far:Nat->Nat->Nat) (dst N:Nat) (D:Nat->Nat):Prop where
 own:D dst=1
 top:∀a,D a<=16
 le:∀a n,far n a≠0->D a<=D n+far n a
 jD:∀a,a≠dst->D a<16->∃n,n<N/\n≠a/\far n a≠0/\D a=D n+far n a
structure Ok (far:Nat->Nat->Nat) (dst N:Nat) (s:St):Prop where
 own:s dst=(1,none)
 top:∀a,(s a).1<=16
 an:∀a n,(s a).2=some n->(s a).1=16\/(n<N/\n≠a/\far n a≠0)
 sR:∀a,a≠dst->(s a).2=none->(s a).1=16
variable{far:Nat->Nat->Nat}{dst N μ:Nat}{D:Nat->Nat}{s:St}
def ql(far:Nat->Nat->Nat)(s:St)(n a:Nat):a9D far s n a=(min (told s n a+far n a) 16,some n)\/(a9D far s n a=s a/\(s a).2≠some n/\(s a).1<=min (told s n a+far n a) 16):=by
 unfold a9D
 grind
def Ok.tell(ok:Ok far dst N s){n:Nat}(hn:n<N):Ok far dst N (a9A far dst n s) where
 own:=by simp[Near.a9A,ok.own]
 top a:=by
  unfold Near.a9A;split
  .rcases ql far s n a with h|⟨h,_⟩<;>rw[h]
   all_goals omega
  .exact ok.top a
 an a m h:=by
  unfold Near.a9A at h⊢;split at h
  .rename_i hc;simp[hc];obtain e|⟨e,_⟩:=ql far s n a<;>rw[e]at h⊢
   .grind
   .exact ok.an a m h
  .rename_i hc;rw[if_neg hc];exact ok.an a m h
 sR a ha h:=by
  unfold Near.a9A at h⊢;split at h
  .rename_i hc;rw[if_pos hc];obtain e|⟨e,_⟩:=ql far s n a<;>rw[e]at h⊢
   .cases h
   .exact ok.sR a ha h
  .rename_i hc;rw[if_neg hc];exact ok.sR a ha h
theorem Ok.ez(a:Ok far dst N s):∀k,k<=N->Ok far dst N (ez far dst k s)
 |0,_=>a
 |k+1,h=>(Ok.ez a k a9h).tell a9h
theorem Ok.rounds(a:Ok far dst N s):∀k,Ok far dst N (a9E far dst N k s)
 |0=>a
 |k+1=>(Ok.rounds a k).ez N (az _)
def iT(D:Nat->Nat)(μ:Nat)(s:St):Prop:=∀a,D a<=(s a).1\/μ<=(s a).1
def oF(D:Nat->Nat)(μ k:Nat)(s:St):Prop:=∀a,D a<=(s a).1\/μ+1<=(s a).1\/(μ<=(s a).1/\∀n,(s a).2=some n->k<=n)
def a4Y(h:iT D μ s)(b:eT far dst N D)(n a:Nat):D n<=told s n a\/μ<=told s n a:=by
 unfold told;split
 .exact .inl (b.top n)
 .exact h n
def oF.step(b:eT far dst N D)(f:Ok far dst N s){k:Nat}(h:oF D μ k s):oF D μ (k+1) (a9A far dst k s):=by
 have l:iT D μ s:=λa=>by obtain h|h|h:=h a<;>omega
 intro a;unfold a9A;split
 .rename_i c;obtain e|⟨e,t,_⟩:=ql far s k a<;>rw[e]
  .have o:=b.le a k c.1;have u:=b.top a;have:=a4Y l b k a;have v:0<far k a:=b0G c.1;omega
  .rcases h a with h|h|⟨g,i⟩
   all_goals grind
 .rename_i c;obtain h|h|⟨g,i⟩:=h a
  .omega
  .omega
  .by_cases p:a=dst
   .subst p;rw[f.own];left;rw[b.own];omega
   .by_cases d:(s a).1=16
    .left;rw[d];exact b.top a
    .refine .inr (.inr ⟨g,λn j=>?_⟩);have:=i n j;have r:n≠k:=by
      intro x;subst x;obtain q|⟨_,q1,w⟩:=f.an a n j
      all_goals omega
     omega
theorem oF.ez(b:eT far dst N D)(c:Ok far dst N s)(h:iT D μ s):∀k,k<=N->oF D μ k (ez far dst k s)
 |0,_=>λa=>(h a).imp id λh=>.inr ⟨h,λ_ _=>iP _⟩
 |k+1,d=>oF.step b (c.ez k a9h) (oF.ez b c h k a9h)
def iT.round(c:eT far dst N D)(d:Ok far dst N s)(h:iT D μ s):iT D (μ+1) (ez far dst N s):=by
 have b:=d.ez N (az _);intro a;obtain h|h|⟨g,i⟩:=oF.ez c d h N (az _) a
 .omega
 .omega
 .left;by_cases e:a=dst
  .subst e;rw[b.own,c.own];omega
  .cases f:(Near.ez far dst N s a).2 with
   |none=>rw[b.sR a e f];exact c.top a
   |some n=>
    obtain q|⟨q,_⟩:=b.an a n f
    .rw[q];exact c.top a
    grind
theorem iT.rounds(a:eT far dst N D)(b:Ok far dst N s)(h:iT D μ s):∀k,iT D (μ+k) (a9E far dst N k s)
 |0=>h
 |k+1=>iT.round a (b.rounds k) (iT.rounds a b h k)
def iT.all(b:eT far dst N D)(h:iT D 16 s):∀a,D a<=(s a).1:=λa=>by
 obtain h|h:=h a
 .exact h
 .have:=b.top a;omega
structure Fair (far:Nat->Nat->Nat) (dst N:Nat) (D:Nat->Nat) (s:St):Prop where
 ok:Ok far dst N s
 lo:∀a,D a<=(s a).1
 wZ:∀a n,(s a).2=some n->min (D n+far n a) 16<=(s a).1\/(s a).1=16
def MB(far:Nat->Nat->Nat)(D:Nat->Nat)(k:Nat)(s:St):Prop:=∀a n,n<k->(s a).2=some n->min (D n+far n a) 16<=(s a).1\/(s a).1=16
def Ie(b:eT far dst N D)(h:∀a,D a<=(s a).1)(k:Nat):∀a,D a<=(a9A far dst k s a).1:=by
 intro a;have f:iT D 16 s:=λa=>.inl (h a);unfold a9A;split
 .rename_i c;obtain e|⟨e,_⟩:=ql far s k a<;>rw[e]
  .have d:=b.le a k c.1;have g:=b.top a;have:D k<=told s k a:=by
    unfold told;split
    .exact b.top k
    grind
   omega
  grind
 grind
def EL(i:eT far dst N D)(h:∀a,D a<=(s a).1){a n k:Nat}(j:n≠k->(s a).2=some n->min (D n+far n a) 16<=(s a).1\/(s a).1=16)(d:Ok far dst N s)(b:(a9A far dst k s a).2=some n):min (D n+far n a) 16<=(a9A far dst k s a).1\/(a9A far dst k s a).1=16:=by
 unfold a9A at b⊢;split at b
 .rename_i c;simp[c];obtain e|⟨e,l,_⟩:=ql far s k a<;>rw[e]at b⊢
  all_goals grind[told]
 .rename_i c;rw[if_neg c];by_cases f:n=k
  .subst f;obtain q|⟨_,q1,o⟩:=d.an a n b
   .omega
   .by_cases g:a=dst
    .subst g;rw[d.own]at b;cases b
    omega
  simp_all
theorem GV(b:eT far dst N D)(f:Ok far dst N s)(h:∀a,D a<=(s a).1):∀k,k<=N->(∀a,D a<=(ez far dst k s a).1)/\MB far D k (ez far dst k s)
 |0,_=>⟨h,λ_ _ g=>absurd g (lL _)⟩
 |k+1,j=>by have c:=GV b f h k a9h;have d:=f.ez k a9h;exact⟨Ie b c.1 k,λa n g e=>EL b c.1 (λi e=>c.2 a n a9h e) d e⟩
def Ty(d:eT far dst N D)(b:Ok far dst N s)(h:∀a,D a<=(s a).1):Fair far dst N D (ez far dst N s):=by
 have f:=GV d b h N (az _);refine⟨b.ez N (az _),f.1,λa n c=>?_⟩;obtain q|⟨q,_⟩:=(b.ez N (az _)).an a n c
 .omega
 .exact f.2 a n q c
def Fair.tell(c:eT far dst N D)(h:Fair far dst N D s){k:Nat}(d:k<N):Fair far dst N D (a9A far dst k s):=
 ⟨h.ok.tell d,Ie c h.lo k,λa n b=>EL c h.lo (λ_ b=>h.wZ a n b) h.ok b⟩
def jJ(D:Nat->Nat)(N a:Nat):Nat:=(List.range N).countP λx=>decide (D x<D a)
def Db{n a:Nat}(c:n<N)(h:D n<D a):jJ D N n<jJ D N a:=by
 unfold jJ;have f:(List.range N).countP (λx=>decide (D x<D n))<=((List.range N).filter λx=>decide (x≠n)).countP (λx=>decide (D x<D a)):=by
  rw[List.countP_filter];refine b0Q λx _ b=>?_
  grind
 have g:((List.range N).filter λx=>decide (x≠n)).countP (λx=>decide (D x<D a))<(List.range N).countP (λx=>decide (D x<D a)):=by
  rw[List.countP_filter];have d:n∈List.range N:=pK.2 c;let ⟨l1,l2,e⟩:=List.append_of_mem d;rw[e,List.countP_append,List.countP_append,List.countP_cons,List.countP_cons];have i:=b0Q (l:=l1) (p:=λx=>decide (D x<D a)&&decide (x≠n)) (q:=λx=>decide (D x<D a)) λx _ b=>by simp_all
  have j:=b0Q (l:=l2) (p:=λx=>decide (D x<D a)&&decide (x≠n)) (q:=λx=>decide (D x<D a)) λx _ b=>by simp_all
  grind
 omega
def Rt(far:Nat->Nat->Nat)(D:Nat->Nat)(N k j:Nat)(s:St):Prop:=∀a,a<N->(jJ D N a<k\/(jJ D N a=k/\∃n,n<j/\n<N/\n≠a/\far n a≠0/\D a=D n+far n a))->(s a).1=D a
def a2c(h:Fair far dst N D s){a n:Nat}(d:(s n).1=D n)(e:far n a≠0)(f:D a=D n+far n a)(b:D a<16):told s n a=D n:=by
 unfold told;split
 .rename_i c;obtain q|q:=h.wZ n a c
  all_goals omega
 omega
def Fair.known(c:eT far dst N D)(h:Fair far dst N D s){a:Nat}(b:a=dst\/D a=16):(s a).1=D a:=by
 obtain rfl|b:=b
 .rw[h.ok.own,c.own]
 .have:=h.lo a;have:=h.ok.top a;omega
def Rt.step(f:eT far dst N D)(h:Fair far dst N D s){k j:Nat}(u:j<N)(r:Rt far D N k j s):Rt far D N k (j+1) (a9A far dst j s):=by
 intro a v c;have hF:=h.tell f u;by_cases y:a=dst\/D a=16
 .exact hF.known f y
 have B:a≠dst:=λx=>y (.inl x);have i:D a<16:=by have:=f.top a;omega
 have d:∀n,n<N->D a=D n+far n a->far n a≠0->(s n).1=D n:=λn b e l=>r n b (.inl (by
  have:jJ D N n<jJ D N a:=Db b (by have:=b0G l;omega);omega))
 have o:(s a).1=D a\/(j≠a/\far j a≠0/\D a=D j+far j a):=by
  obtain c|⟨c,n,b,p,t,l,e⟩:=c
  .exact .inl (r a v (.inl c))
  .by_cases q:n=j
   .simp_all
   .exact .inl (r a v (.inr ⟨c,n,a9h,p,t,l,e⟩))
 have g:=hF.lo a;unfold a9A at g⊢;split
 .rename_i b;rw[if_pos b]at g;have z:D a=D j+far j a->min (told s j a+far j a) 16=D a:=λe=>by rw[a2c h (d j u e b.1) b.1 e i];omega
  unfold a9D at g⊢;dsimp at g⊢;split
  .rename_i A;obtain w|⟨_,_,e⟩:=o
   .apply z;have:=f.le a j b.1;obtain q|q:=h.wZ a j A<;>omega
   omega
  grind
 omega
theorem Rt.ez(a:eT far dst N D)(h:Fair far dst N D s){k:Nat}(r:Rt far D N k 0 s):∀j,j<=N->Fair far dst N D (ez far dst j s)/\Rt far D N k j (ez far dst j s)
 |0,_=>⟨h,r⟩
 |j+1,c=>by have b:=Rt.ez a h r j a9h;exact⟨b.1.tell a a9h,b.2.step a b.1 a9h⟩
def Rt.round(b:eT far dst N D)(h:Fair far dst N D s){k:Nat}(r:Rt far D N k 0 s):Fair far dst N D (Near.ez far dst N s)/\Rt far D N (k+1) 0 (Near.ez far dst N s):=by
 have q:=Rt.ez b h r N (az _);refine⟨q.1,λa d e=>?_⟩;by_cases f:a=dst\/D a=16
 .exact q.1.known b f
 obtain e|⟨_,n,c,_⟩:=e
 .by_cases g:jJ D N a<k
  .exact q.2 a d (.inl g)
  .obtain⟨n,c,q1,i,q3⟩:=b.jD a (λx=>f (.inl x)) (by have:=b.top a;omega);exact q.2 a d (.inr ⟨a9h,n,c,c,q1,i,q3⟩)
 .omega
theorem Rt.rounds(b:eT far dst N D)(h:Fair far dst N D s):∀k,Fair far dst N D (Near.a9E far dst N k s)/\Rt far D N k 0 (Near.a9E far dst N k s)
 |0=>⟨h,λa _ c=>by obtain c|⟨_,n,e,_⟩:=c<;>omega⟩
 |k+1=>by have d:=Rt.rounds b h k;exact Rt.round b d.1 d.2
theorem Da(D:Nat->Nat){a:Nat}(b:a<N):jJ D N a<N:=by
 grind[jJ,List.countP_eq_length]
theorem J9(far:Nat->Nat->Nat)(dst N:Nat)(s:St)(i:Nat):∀k,Near.a9E far dst N (i+k) s=Near.a9E far dst N k (Near.a9E far dst N i s)
 |0=>rfl
 |k+1=>by rw[<-lJ,Near.a9E,J9 far dst N s i k,Near.a9E]
structure pQ (far:Nat->Nat->Nat) (dst N:Nat) (D:Nat->Nat) (s:St):Prop where
 fair:Fair far dst N D s
 eq:∀a,a<N->(s a).1=D a
def J5(c:eT far dst N D)(h:Fair far dst N D s){k:Nat}(d:N<=k):pQ far dst N D (Near.a9E far dst N k s):=by have q:=Rt.rounds c h k;exact⟨q.1,λa b=>q.2 a b (.inl (by have:=Da D b;omega))⟩
def a2b(b:eT far dst N D)(c:Ok far dst N s){k:Nat}(d:N<=k):pQ far dst N D (Near.a9E far dst N (17+k) s):=by rw[J9];refine J5 b ?_ d;have e:=iT.rounds b c (μ:=0) (λa=>.inr (iP _)) 16;exact Ty b (c.rounds 16) (iT.all b a9h)
def pQ.next(c:eT far dst N D)(h:pQ far dst N D s){a:Nat}(d:a<N)(f:a≠dst)(g:D a<16):∃n,(s a).2=some n/\n<N/\n≠a/\far n a≠0/\D a=D n+far n a:=by
 have e:=h.eq a d;cases b:(s a).2 with
 |none=>have:=h.fair.ok.sR a f b;omega
 |some n=>
  obtain q|⟨q1,i,q3⟩:=h.fair.ok.an a n b
  .omega
  .refine⟨n,rfl,q1,i,q3,?_⟩;have:=c.le a n q3;obtain q|q:=h.fair.wZ a n b<;>omega
variable{far:Nat->Nat->Nat}{dst N:Nat}
def eW(far:Nat->Nat->Nat)(a b:Nat)(x:Nat->Nat):Nat->Nat:=λc=>if c=a/\far a b≠0/\x b+far a b<x a then x b+far a b else x c
def ef(far:Nat->Nat->Nat)(a:Nat):Nat->(Nat->Nat)->Nat->Nat
 |0,x=>x
 |k+1,x=>eW far a k (ef far a k x)
def dN(far:Nat->Nat->Nat)(N:Nat):Nat->(Nat->Nat)->Nat->Nat
 |0,x=>x
 |j+1,x=>ef far j N (dN far N j x)
def ej(far:Nat->Nat->Nat)(N:Nat):Nat->(Nat->Nat)->Nat->Nat
 |0,x=>x
 |k+1,x=>dN far N N (ej far N k x)
structure Way (far:Nat->Nat->Nat) (dst N:Nat) (x:Nat->Nat):Prop where
 own:x dst=1
 pos:∀a,1<=x a
 top:∀a,x a<=16
 jD:∀a,a≠dst->x a<16->∃b,b<N/\b≠a/\far a b≠0/\x b+far a b<=x a
def vS(x a b c):eW far a b x c<=x c:=by
 unfold eW
 grind
def Way.eW{x:Nat->Nat}(h:Way far dst N x){a b:Nat}(hb:b<N):Way far dst N (eW far a b x) where
 own:=by
  unfold Near.eW;split
  .rename_i q;have:=h.pos b;have:=h.own;rw[q.1]at this;omega
  .exact h.own
 pos c:=by
  unfold Near.eW;split
  .have:=h.pos b;omega
  .exact h.pos c
 top c:=by have:=vS (far:=far) x a b c;have:=h.top c;omega
 jD c hd hc:=by
  by_cases q:c=a/\far a b≠0/\x b+far a b<x a
  .obtain⟨rfl,q1,q2⟩:=q;have hne:b≠c:=λe=>by grind
   refine⟨b,hb,hne,q1,?_⟩;have e:Near.eW far c b x b=x b:=by simp_all[Near.eW]
   rw[e];unfold Near.eW;rw[if_pos ⟨rfl,q1,q2⟩];omega
  .have e:Near.eW far a b x c=x c:=by unfold Near.eW;rw[if_neg q]
   rw[e]at hc⊢;let ⟨n,q1,q2,q3,q4⟩:=h.jD c hd hc;have:=vS (far:=far) x a b n
   grind
theorem zh(a x c):∀k,ef far a k x c<=x c
 |0=>az _
 |k+1=>dt (vS _ _ _ _) (zh a x c k)
theorem pg(x c):∀j,dN far N j x c<=x c
 |0=>az _
 |j+1=>dt (zh _ _ _ _) (pg x c j)
theorem Way.ef{x:Nat->Nat}(h:Way far dst N x)(a:Nat):∀k,k<=N->Way far dst N (ef far a k x)
 |0,_=>h
 |k+1,b=>(Way.ef h a k a9h).eW a9h
theorem Way.dN{x:Nat->Nat}(h:Way far dst N x):∀j,Way far dst N (dN far N j x)
 |0=>h
 |j+1=>(Way.dN h j).ef j N (az _)
theorem Way.ej{x:Nat->Nat}(h:Way far dst N x):∀k,Way far dst N (ej far N k x)
 |0=>h
 |k+1=>(Way.ej h k).dN N
def T4{x}(s:∀a b,far a b=far b a)(p:∀a b,N<=a->far a b=0)(h:Way far dst N x)(e:Near.dN far N N x=x):eT far dst N x:=by
 have u:∀a n,far a n≠0->x a<=x n+far a n:=by
  intro a n l;have H:a<N:=a9W λq=>l (p a n q);have I:n<N:=a9W λq=>l (by rw[s];grind);have Cp:∀c,∀j,j<=N->Near.dN far N j x c=x c:=by
   intro c j v;have d:∀i,j<=i->Near.dN far N i x c<=Near.dN far N j x c:=by
    intro i;induction i with
    |zero=>simp_all
    |succ i o=>
     intro q;by_cases z:j=i+1
     .simp_all
     .exact dt (zh _ _ _ _) (o a9h)
   have r:=d N v;rw[e]at r;have w:=pg (far:=far) (N:=N) x c j;omega
  have y:Near.dN far N a x=x:=funext λc=>Cp c a a9h;have A:=Cp a (a+1) a9h;have B:Near.ef far a N x a=x a:=by have:Near.dN far N (a+1) x a=Near.ef far a N (Near.dN far N a x) a:=rfl;rw[y]at this;rw[<-this];exact A
  have f:∀k,k<=N->Near.ef far a k x a=x a:=by
   intro k C;have d:∀i,k<=i->Near.ef far a i x a<=Near.ef far a k x a:=by
    intro i;induction i with
    |zero=>simp_all
    |succ i o=>
     intro q;by_cases z:k=i+1
     .simp_all
     .exact dt (vS _ _ _ _) (o a9h)
   have r:=d N C;rw[B]at r;have w:=zh (far:=far) a x a k;omega
  by_cases D:n=a
  .simp_all
  have g:∀k,Near.ef far a k x n=x n:=by
   intro k;induction k with
   |zero=>rfl
   |succ k o=>simp_all[Near.eW,Near.ef]
  have q:=f (n+1) a9h;have t:Near.eW far a n (Near.ef far a n x) a=x a:=q;unfold Near.eW at t;rw[g n,f n a9h]at t
  grind
 refine⟨h.own,h.top,λa n l=>?_,λa E F=>?_⟩
 .rw[s]at l⊢;simp_all
 .obtain⟨b,q1,J,q3,K⟩:=h.jD a E F;have:=u a b q3
  grind
theorem zi{x a c}(h:c≠a):∀k,ef far a k x c=x c
 |0=>rfl
 |k+1=>by show eW far a k (ef far a k x) c=x c;unfold eW;rw[if_neg λz=>h z.1,zi h k]
theorem zg{x c}:∀j,j<=c->dN far N j x c=x c
 |0,_=>rfl
 |j+1,h=>by show ef far j N (dN far N j x) c=x c;rw[zi a9h,zg j a9h]
theorem Lu{x c}(h:N<=c):∀k,ej far N k x c=x c
 |0=>rfl
 |k+1=>(zg N h).trans (Lu h k)
theorem Lp(x):∀k,ej far N k (dN far N N x)=ej far N (k+1) x
 |0=>rfl
 |k+1=>by rw[ej,Lp x k];rfl
def pu(x:Nat->Nat):Nat->Nat
 |0=>0
 |n+1=>pu x n+x n
theorem Lo{x y}(h:∀c,y c<=x c):∀n,pu y n<=pu x n
 |0=>az _
 |n+1=>Nat.add_le_add (Lo h n) (h n)
theorem DO{x y}(h:∀c,y c<=x c){c}(a:y c<x c):∀n,c<n->pu y n<pu x n
 |0,q=>absurd q (lL _)
 |n+1,q=>by
  have b:=h n;by_cases e:c=n
  .subst e;have:=Lo h c;grind[pu]
  .have:=DO h a n a9h;grind[pu]
def T5:∀m x,pu x N<=m->∃k,dN far N N (ej far N k x)=ej far N k x:=by
 intro m;induction m with
 |zero=>
  intro x b;refine⟨0,funext λc=>?_⟩;by_cases a:c<N
  .refine Nat.le_antisymm (pg _ _ _) (Nat.le_of_not_lt λq=>?_);have:=DO (x:=x) (λc=>pg (far:=far) (N:=N) x c N) q N a;omega
  grind[zg]
 |succ m f=>
  intro x b;by_cases e:dN far N N x=x
  .exact⟨0,e⟩
  .have:∃c,dN far N N x c<x c:=by
    refine eQ λq=>e (funext λc=>?_)
    grind[pg]
   obtain⟨c,a⟩:=this;have d:c<N:=a9W λq=>by rw[zg N q]at a;omega
   have:=DO (λc=>pg (far:=far) (N:=N) x c N) a N d
   grind[Lp]
def a1w{D x:Nat->Nat}(d:∀a n,far a n≠0->D a<=D n+far a n)(h:∀c,D c<=x c)(a b c):D c<=eW far a b x c:=by
 unfold eW
 grind
theorem JW{D x:Nat->Nat}(b:∀a n,far a n≠0->D a<=D n+far a n)(h:∀c,D c<=x c)(a):∀k c,D c<=ef far a k x c
 |0=>h
 |k+1=>a1w b (JW b h a k) a k
theorem JV{D x:Nat->Nat}(b:∀a n,far a n≠0->D a<=D n+far a n)(h:∀c,D c<=x c):∀j c,D c<=dN far N j x c
 |0=>h
 |j+1=>JW b (JV b h j) j N
theorem Lq{D x:Nat->Nat}(b:∀a n,far a n≠0->D a<=D n+far a n)(h:∀c,D c<=x c):∀k c,D c<=ej far N k x c
 |0=>h
 |k+1=>JV b (Lq b h k) N
theorem Lt(x c):∀k,ej far N k x c<=x c
 |0=>az _
 |k+1=>dt (pg _ _ _) (Lt x c k)
def a4n(x){a n}(h:a<N)(j:n<N)(b:n≠a)(k:far a n≠0):dN far N N x a<=x n+far a n:=by
 have f:∀(y:Nat->Nat),ef far a N y a<=y n+far a n:=by
  intro y;have l:ef far a (n+1) y a<=y n+far a n:=by
   show eW far a n (ef far a n y) a<=_;have e:ef far a n y n=y n:=zi b n;unfold eW
   grind
  have d:∀i,n+1<=i->ef far a i y a<=ef far a (n+1) y a:=by
   intro i;induction i with
   |zero=>omega
   |succ i c=>
    intro q;by_cases z:n=i
    .simp_all
    .exact dt (vS _ _ _ _) (c a9h)
  grind
 have g:dN far N (a+1) x a<=x n+far a n:=by have:=f (dN far N a x);have o:=pg (far:=far) (N:=N) x n a;show ef far a N (dN far N a x) a<=_;omega
 have e:∀i,a+1<=i->dN far N i x a=dN far N (a+1) x a:=by
  intro i;induction i with
  |zero=>omega
  |succ i c=>
   intro q;by_cases z:a=i
   .grind
   .have:dN far N (i+1) x a=dN far N i x a:=zi z N;rw[this,c a9h]
 rw[e N a9h];exact g
theorem a4o{x}(d:∀a b,far a b=far b a)(g:∀a b,N<=a->far a b=0)(h:Way far dst N x):eT far dst N (ej far N N x):=by
 obtain⟨K,o⟩:=T5 (far:=far) (N:=N) _ x (az _);have f:=T4 d g (h.ej K) o;have p:∀a n,far a n≠0->ej far N K x a<=ej far N K x n+far a n:=λa n i=>by have:=f.le a n (by rw[d];exact i);rw[d n a]at this;exact this
 have r:=λk=>Lq (N:=N) p (λc=>Lt x c K) k;have s:∀k a,a<N->jJ (ej far N K x) N a<k->ej far N k x a=ej far N K x a:=by
  intro k;induction k with
  |zero=>omega
  |succ k t=>
   intro a u q;refine Nat.le_antisymm ?_ (r (k+1) a);by_cases l:a=dst
   .subst l;rw[(h.ej (k+1)).own,f.own];omega
   by_cases j:ej far N K x a<16
   .obtain⟨n,q1,v,q3,w⟩:=f.jD a l j;have i:far a n≠0:=by rw[d];exact q3
    have:=b0G q3;have y:=Db (D:=ej far N K x) q1 (a:=a) a9h;have e:=t n q1 a9h;have:=a4n (ej far N k x) u q1 v i;simp_all[ej]
   .have:=(h.ej (k+1)).top a;omega
 have e:ej far N N x=ej far N K x:=by
  grind[Da,Lu]
 rw[e];exact f
variable{far:Nat->Nat->Nat}{N:Nat}
def gT(far:Nat->Nat->Nat)(a b:Nat):Nat->(Nat->Nat->Nat)->Nat->Nat->Nat
 |0,x=>x
 |k+1,x=>λp q=>if p=a/\q=k/\gT far a b k x b k+far a b<gT far a b k x a k then gT far a b k x b k+far a b else gT far a b k x p q
def mQ(far:Nat->Nat->Nat)(N a:Nat):Nat->(Nat->Nat->Nat)->Nat->Nat->Nat
 |0,x=>x
 |k+1,x=>if far a k=0 then mQ far N a k x else gT far a k N (mQ far N a k x)
def pe(far:Nat->Nat->Nat)(N:Nat):Nat->(Nat->Nat->Nat)->Nat->Nat->Nat
 |0,x=>x
 |j+1,x=>mQ far N j N (pe far N j x)
def i9(far:Nat->Nat->Nat)(N:Nat):Nat->(Nat->Nat->Nat)->Nat->Nat->Nat
 |0,x=>x
 |k+1,x=>pe far N N (i9 far N k x)
theorem zf(a b x p){q}:∀k,k<=q->gT far a b k x p q=x p q
 |0,_=>rfl
 |k+1,h=>by show(if _ then _ else _)=_;rw[if_neg (λz=>a9h)];exact zf a b x p k a9h
theorem JT(a b)(c:far a b≠0)(x){q}(p):∀k,q<k->gT far a b k x p q=eW far a b (λr=>x r q) p
 |0,h=>absurd h (lL _)
 |k+1,h=>by
  by_cases e:q=k
  .subst e;show(if _ then _ else _)=_;rw[zf a b x b q (az _),zf a b x a q (az _),zf a b x p q (az _)];unfold eW;simp_all
  .show(if _ then _ else _)=_;rw[if_neg (λz=>e z.2.1)];exact JT a b c x p k a9h
def a1x{a b}(d:far a b=0)(x):eW far a b x=x:=by funext c;simp_all[eW]
theorem JS(a x){q}(b:q<N):∀k,(λp=>mQ far N a k x p q)=ef far a k λp=>x p q
 |0=>rfl
 |k+1=>by
  have c:=JS a x b k;show(λp=>(if far a k=0 then mQ far N a k x else gT far a k N (mQ far N a k x)) p q)=eW far a k (ef far a k λp=>x p q);rw[<-c];by_cases h:far a k=0
  all_goals simp_all[a1x,JT]
theorem JR(x){q}(a:q<N):∀j,(λp=>pe far N j x p q)=dN far N j λp=>x p q
 |0=>rfl
 |j+1=>by show(λp=>mQ far N j N (pe far N j x) p q)=ef far j N (dN far N j λp=>x p q);rw[JS j _ a N,JR x a j]
theorem JU(x){q}(a:q<N):∀k,(λp=>i9 far N k x p q)=ej far N k λp=>x p q
 |0=>rfl
 |k+1=>by show(λp=>pe far N N (i9 far N k x) p q)=dN far N N (ej far N k λp=>x p q);rw[JR _ a N,JU x a k]
def fo:Nat->Nat->Nat:=λa b=>if a=b then 1 else 16
theorem Pc(d):Way far d N λa=>fo a d:=by
 refine⟨if_pos rfl,λa=>?_,λa=>?_,λa b h=>?_⟩<;>unfold fo at*
 all_goals grind
def LS(f:∀a b,far a b=far b a)(c:∀a b,N<=a->far a b=0){d}(e:d<N):eT far d N λa=>i9 far N N fo a d:=by
 rw[JU fo e N]
 grind[a4o,Pc]
end Go.Near
end
