import Derived.Test.YtdnpeefnobjfaaaGreatDoorK25
import Derived.Test.YtdnpeefnobjfaaaGreatDoorK47
set_option maxRecDepth 100000
set_option maxHeartbeats 4000000
set_option linter.all false
section
namespace Go.Proofs.Each
open Go.Conc Go.Mir Go.RowKit Go.Proofs.q
def xR(Stop:ah->List ah->aa->Prop):Prop:=∀a fs w,Stop a fs w->fs=[]/\a.mode=.returning/\a.defers=[]/\a.kind=.normal
abbrev iP(Stop):=Fin PG (aB PG) Stop
abbrev oa(Stop):=Mir.Reach PG (aB PG) Stop
def AL:PG.inits.idxOf? PG.funcs.size=none:=sO.{0}
def JA{i:Nat}(h:i<1000):IntKind.i64.wrap ((i:Int)+1)=((i+1:Nat):Int):=by have a:IntKind.i64.bits=64:=rfl;unfold IntKind.wrap;rw[a];simp;omega
structure dM (B:Nat) (w w':aa):Prop where
 os:oo w'=oo w
 size:w.heap.size<=w'.heap.size
 block:∀k,k<B->w'.heap[k]?=w.heap[k]?
def dM.refl(B w):dM B w w:=⟨rfl,aF _,λ_ _=>rfl⟩
def dM.trans{B a b d}(h:dM B a b)(k:dM B b d):dM B a d:=⟨k.os.trans h.os,dF h.size k.size,λi e=>(k.block i e).trans (h.block i e)⟩
def dM.mono{B a w w'}(h:dM B w w')(b:a<=B):dM a w w':=⟨h.os,h.size,λk d=>h.block k (cG d b)⟩
def dM.of{B w w'}(h:Below B w w'):dM B w w':=⟨km h.os h.output,h.size,h.block⟩
def dM.cell{B w w'}(h:dM B w w'){a}(b:a.block<B):w'.cell? a=w.cell? a:=by unfold World.cell?;rw[h.block _ b]
section
variable{Stop:ah->List ah->aa->Prop}(ag:xR Stop){c:ah}{fs:List ah}{K:Bool}{L:List af}
include ag
def st1:∀fr fs w,Stop fr fs w->fs=[]:=λa b c h=>(ag a b c h).1
def oR{fr d gs w}: ¬Stop fr (d::gs) w:=λh=>by have:=(ag _ _ _ h).1;cases this
def ask{w}{b:Bool}{p}[Decidable p](f:Bool->ah)(a:eT (f false) ((c::fs)++[aB PG]))(hF:iP Stop (f (decide p)) (c::fs) w):p/\iP Stop (f true) (c::fs) w:=by
 by_cases h:p
 .rw[decide_eq_true h]at hF;exact⟨h,hF⟩
 .rw[decide_eq_false h]at hF;exact(jg (st1 ag) (by simp) a hF).elim
def Mj{u x tv w}(hF:iP Stop (pU K u L x tv) (c::fs) w):∃(n:Nat) (f:Option ap) (a d:Nat) (o:Nat->af),n<=8/\a<=100/\x=.int .i64 n/\tv=.agg #[.slice f a d]/\iP Stop (mG K o L n f a d) (c::fs) w/\oa Stop (pU K u L x tv) (c::fs) w (mG K o L n f a d) (c::fs) w:=by
 have s:=st1 ag;have e:(c::fs)≠[]:=by simp
 obtain⟨u1,C⟩:=KO K u L ((c::fs)++[aB PG]) x tv;obtain⟨p,D⟩:=cU s e C hF;obtain⟨z,rfl⟩:=(JM K u1 L ((c::fs)++[aB PG]) x tv).resolve_right λh=>jg s e h p;obtain⟨u2,s2⟩:=JN K z u1 L ((c::fs)++[aB PG]) tv;obtain⟨g,q⟩:=cU s e s2 p;have i:z<9:=(ask ag (b:=true) (λb=>vw K u2 L z b tv) (JO K z u2 L _ tv) g).1;rw[decide_eq_true i]at g q;obtain⟨u3,E⟩:=JP K z u2 L ((c::fs)++[aB PG]) tv;obtain⟨j,t⟩:=cU s e E g;have k: -1<z:=(ask ag (b:=true) (λb=>vz K u3 L z b tv) (JQ K z u3 L _ tv) j).1;rw[decide_eq_true k]at j t;obtain⟨u4,s4⟩:=JR K z u3 L ((c::fs)++[aB PG]) tv;obtain⟨v,F⟩:=cU s e s4 j;obtain⟨x,r,rfl⟩:=(JS K z u4 L ((c::fs)++[aB PG]) tv).resolve_right λh=>jg s e h v;obtain⟨u5,H⟩:=JT K z u4 L ((c::fs)++[aB PG]) x r;obtain⟨y,I⟩:=cU s e H v;obtain rfl:=(J2 K z u5 L ((c::fs)++[aB PG]) x r).resolve_right λh=>jg s e h y;obtain⟨u6,J⟩:=J3 K z u5 L ((c::fs)++[aB PG]) x;obtain⟨A,M⟩:=cU s e J y;obtain⟨f,a,d,rfl⟩:=(JU K z u6 L ((c::fs)++[aB PG]) x).resolve_right λh=>jg s e h A;obtain⟨u7,s7⟩:=JV K z f a d u6 L ((c::fs)++[aB PG]);obtain⟨l,B⟩:=cU s e s7 A;have m:(a:Int)<101:=(ask ag (b:=true) (λb=>vA K u7 L z b f a d) (JW K z f a d u7 L _) l).1;rw[decide_eq_true m]at l B;obtain⟨u8,N⟩:=JX K z f a d u7 L ((c::fs)++[aB PG]);obtain⟨O,P⟩:=cU s e N l;obtain⟨n,rfl⟩:∃n:Nat,z=n:=⟨z.toNat,by omega⟩;exact⟨n,f,a,d,u8,by omega,by omega,rfl,rfl,O,D.trans (q.trans (t.trans (F.trans (I.trans (M.trans (B.trans P))))))⟩
def Mk{u z ao len cap w}(hF:iP Stop (mG K u L z ao len cap) (c::fs) w):∃(q:Nat->af) (w1:aa),w1.heap=w.heap.push (.cells #[.slice none 0 0] 46)/\(∀a,ao=some a->0<len->∀s t,w1.heap[a.block]? ≠some (.view s t))/\dM w.heap.size w w1/\iP Stop (gH K q L z 0 ao len cap) (c::fs) w1/\oa Stop (mG K u L z ao len cap) (c::fs) w (gH K q L z 0 ao len cap) (c::fs) w1:=by
 have s:=st1 ag;have i:(c::fs)≠[]:=by simp
 obtain⟨r,j⟩:=oD (fr1:=(mG K u L z ao len cap).finish (.slice (some ⟨w.heap.size,0,none⟩) 1 1)) (gs1:=c::fs) (oR ag) hF (JZ K z ao len cap u L ((c::fs)++[aB PG]) w);obtain⟨u1,D⟩:=JY K z w.heap.size ao len cap u L ((c::fs)++[aB PG]);obtain⟨k,l⟩:=cU s i D r;generalize d:({w with heap:=w.heap.push (.cells #[.slice none 0 0] 46)}:aa)=w0 at r j k l;have E:w0.heap[w.heap.size]?=some (.cells #[.slice none 0 0] 46 (0,0)):=by rw[<-d];show(w.heap.push _)[w.heap.size]?=_;simp
 have v:w0.heap=w.heap.push (.cells #[.slice none 0 0] 46):=by rw[<-d]
 have b:dM w.heap.size w w0:=by rw[<-d];exact dM.of (bH w (.cells #[.slice none 0 0] 46))
 obtain⟨B,w1,e,m,f⟩|⟨h,e,F⟩:=XZ w0 w.heap.size _ E ao len cap
 .obtain⟨x,n,g,H,y⟩:=rX s i k (B2 K z w.heap.size ao len cap u1 L ((c::fs)++[aB PG])) (B3 K z w.heap.size ao len cap u1 L) (.inl ⟨_,_,e⟩);rw[e]at g;cases g;obtain⟨u2,s2⟩:=J0 K z w.heap.size B ao len cap u1 L ((c::fs)++[aB PG]);obtain⟨A,C⟩:=cU s i s2 H;obtain rfl|rfl:=m
  .exact⟨u2,_,v,λa o p s t=>f a o p s t,b,A,j.trans (l.trans (y.trans C))⟩
  .exact⟨u2,w0.drew,v,λa o p s t=>f a o p s t,⟨b.os,b.size,b.block⟩,A,j.trans (l.trans (y.trans C))⟩
 .obtain⟨x,n,g,_⟩:=rX s i k (B2 K z w.heap.size ao len cap u1 L ((c::fs)++[aB PG])) (B3 K z w.heap.size ao len cap u1 L) (.inr ⟨_,_,e,F⟩);rw[e]at g;cases g
def Ml{u z i a len cap w}(hi:i<len)(bn:len<=100)(A:∀s t,w.heap[a.block]? ≠some (.view s t))(hF:iP Stop (gX K u L z i (some a) len cap) (c::fs) w):∃(r:Rw) (u':Nat->af) (w1:aa),fY [r]/\w.cell? ((a.add (i*7)).add 0)=some (.int .u32 r.addr)/\w.cell? ((a.add (i*7)).add 1)=some (.int .i64 r.len)/\w.cell? ((a.add (i*7)).add 2)=some (.int .i64 r.tag)/\w.cell? ((a.add (i*7)).add 3)=some (.int .i64 r.met)/\w.cell? ((a.add (i*7)).add 4)=some (.int .i64 r.az)/\w.cell? ((a.add (i*7)).add 5)=some (.int .i64 r.bM)/\w.cell? ((a.add (i*7)).add 6)=some (.bool r.ci)/\dM w.heap.size w w1/\iP Stop (gH K u' L z (i+1) (some a) len cap) (c::fs) w1/\oa Stop (gX K u L z i (some a) len cap) (c::fs) w (gH K u' L z (i+1) (some a) len cap) (c::fs) w1:=by
 have s:=st1 ag;have k:(c::fs)≠[]:=by simp
 generalize bo:(c::fs)++[aB PG]=CS;have ix:=Fs w 118 137 7 Gh.underlying118 Gh.sizeOf137 a i len cap hi;obtain⟨x,w',O,F1,r1⟩:=rX s k hF (Lt K z i (some a) len cap u L ((c::fs)++[aB PG])) (Lu K z i (some a) len cap u L) (.inl ⟨_,_,ix⟩);rw[ix]at O;cases O;obtain⟨u1,s1⟩:=Lv K z i (some a) (a.add (i*7)) len cap u L ((c::fs)++[aB PG]);obtain⟨F2,r2⟩:=cU s k s1 F1;have hb:(a.add (i*7)).block=a.block:=ob a _;obtain⟨x,w',O,F3,r3⟩:=rX s k F2 (s:=L7 (a.add (i*7))) (K4 K z i (some a) (a.add (i*7)) len cap u1 L ((c::fs)++[aB PG])) (K5 K z i (some a) (a.add (i*7)) len cap u1 L) (a0U (by rw[hb];exact A));obtain⟨x0,n,m,x3,l,j,f,c0,c1,c2,c3,c4,c5,c6,rfl,hw⟩:=a0T (by rw[hb];exact A) O;obtain rfl:w=w':=hw.symm;obtain⟨u2,s2⟩:=K6 K z i (some a) (a.add (i*7)) len cap u1 L ((c::fs)++[aB PG]) x0 n m x3 l j f;obtain⟨F4,r4⟩:=cU s k s2 F3;obtain⟨ad,rfl⟩:=(Ki K z i (some a) len cap u2 L ((c::fs)++[aB PG]) x0 n m x3 l j f).resolve_right λh=>jg s k h F4;obtain⟨u3,s3⟩:=Kj K z i (some a) len cap u2 L ((c::fs)++[aB PG]) n m x3 l j f ad;obtain⟨Q,r5⟩:=cU s k s3 F4;have g1: -1<ad:=(ask ag (b:=true) (λb=>vB K u3 L z i b (some a) len cap n m x3 l j f ad) (Ku K z i (some a) len cap u3 L _ n m x3 l j f ad) Q).1;rw[decide_eq_true g1]at Q r5;obtain⟨u4,s4⟩:=Kv K z i (some a) len cap u3 L ((c::fs)++[aB PG]) n m x3 l j f ad;obtain⟨R,r6⟩:=cU s k s4 Q;have S:ad<4294967296:=(ask ag (b:=true) (λb=>vC K u4 L z i b (some a) len cap n m x3 l j f ad) (Kw K z i (some a) len cap u4 L _ n m x3 l j f ad) R).1;rw[decide_eq_true S]at R r6;obtain⟨u5,s5⟩:=Kx K z i (some a) len cap u4 L ((c::fs)++[aB PG]) n m x3 l j f ad;obtain⟨F7,r7⟩:=cU s k s5 R;obtain⟨g,rfl⟩:=(Ky K z i (some a) len cap u5 L ((c::fs)++[aB PG]) n m x3 l j f ad).resolve_right λh=>jg s k h F7;obtain⟨u6,s6⟩:=Kz K z i (some a) len cap u5 L ((c::fs)++[aB PG]) m x3 l j f ad g;obtain⟨F8,r8⟩:=cU s k s6 F7;obtain⟨tg,rfl⟩:=(KA K z i (some a) len cap u6 L ((c::fs)++[aB PG]) m x3 l j f ad g).resolve_right λh=>jg s k h F8;obtain⟨u7,s7⟩:=KB K z i (some a) len cap u6 L ((c::fs)++[aB PG]) x3 l j f ad g tg;obtain⟨T,r9⟩:=cU s k s7 F8;have g3: -1<tg:=(ask ag (b:=true) (λb=>vD K u7 L z i b (some a) len cap x3 l j f ad g tg) (KD K z i (some a) len cap u7 L _ x3 l j f ad g tg) T).1;rw[decide_eq_true g3]at T r9;obtain⟨u8,s8⟩:=KE K z i (some a) len cap u7 L ((c::fs)++[aB PG]) x3 l j f ad g tg;obtain⟨p,B⟩:=cU s k s8 T;have g4:tg<65536:=(ask ag (b:=true) (λb=>vE K u8 L z i b (some a) len cap x3 l j f ad g tg) (KF K z i (some a) len cap u8 L _ x3 l j f ad g tg) p).1;rw[decide_eq_true g4]at p B;obtain⟨u9,s9⟩:=KG K z i (some a) len cap u8 L ((c::fs)++[aB PG]) x3 l j f ad g tg;obtain⟨C,U⟩:=cU s k s9 p;obtain⟨me,rfl⟩:=(KH K z i (some a) len cap u9 L ((c::fs)++[aB PG]) x3 l j f ad g tg).resolve_right λh=>jg s k h C;obtain⟨u10,V⟩:=KI K z i (some a) len cap u9 L ((c::fs)++[aB PG]) l j f ad g tg me;obtain⟨q,D⟩:=cU s k V C;have g5:0<me:=(ask ag (b:=true) (λb=>vF K u10 L z i b (some a) len cap l j f ad g tg me) (KJ K z i (some a) len cap u10 L _ l j f ad g tg me) q).1;rw[decide_eq_true g5]at q D;obtain⟨u11,W⟩:=KL K z i (some a) len cap u10 L ((c::fs)++[aB PG]) l j f ad g tg me;obtain⟨v,E⟩:=cU s k W q;have g6:me<17:=(ask ag (b:=true) (λb=>vG K u11 L z i b (some a) len cap l j f ad g tg me) (KM K z i (some a) len cap u11 L _ l j f ad g tg me) v).1;rw[decide_eq_true g6]at v E;obtain⟨u12,X⟩:=KN K z i (some a) len cap u11 L ((c::fs)++[aB PG]) l j f ad g tg me;obtain⟨F,Y⟩:=cU s k X v;obtain⟨y,rfl⟩:=(Kk K z i (some a) len cap u12 L ((c::fs)++[aB PG]) l j f ad g tg me).resolve_right λh=>jg s k h F;obtain⟨u13,Z⟩:=Kl K z i (some a) len cap u12 L ((c::fs)++[aB PG]) j f ad g tg me y;obtain⟨H,ab⟩:=cU s k Z F;obtain⟨P,rfl⟩:=(Km K z i (some a) len cap u13 L ((c::fs)++[aB PG]) j f ad g tg me y).resolve_right λh=>jg s k h H;obtain⟨u14,ae⟩:=Kn K z i (some a) len cap u13 L ((c::fs)++[aB PG]) f ad g tg me y P;obtain⟨I,al⟩:=cU s k ae H;obtain⟨ch,rfl⟩:=(Ko K z i (some a) len cap u14 L ((c::fs)++[aB PG]) f ad g tg me y P).resolve_right λh=>jg s k h I;obtain⟨u15,ao⟩:=Kp K z i (some a) len cap u14 L ((c::fs)++[aB PG]) ad g tg me y P ch;obtain⟨aq,ar⟩:=cU s k ao I;obtain⟨au,av⟩:=oD (fr1:=Frame.enter PG 77 #[.agg #[.int .u32 ad,.int .i64 g]] .normal) (gs1:=sf K u15 L z i (some a) len cap ad g::c::fs) (oR ag) aq (Kr K z i (some a) len cap u15 L ((c::fs)++[aB PG]) ad g w);obtain⟨x,w1,hq,aP,J⟩:=zy AL ag k (τ:=w.tape) (d:=w.drawn) (nY.{0} ad g w (by omega) S) (λe w' h=>⟨_,h.1⟩) au;obtain⟨hx,ba⟩:=hq;cases hx;obtain⟨u16,bb⟩:=Kq K z i (db ad g) (some a) len cap u15 L ((c::fs)++[aB PG]) ad g;obtain⟨o,M⟩:=cU s k bb aP;have g7:db ad g=true:=by
  cases hp:db ad g with
  |true=>rfl
  |false=>rw[hp]at o;exact(jg s k (Ks K z i (some a) len cap u16 L _) o).elim
 rw[g7]at o M J;obtain⟨u17,N⟩:=Kt K z i (some a) len cap u16 L ((c::fs)++[aB PG]);rw[JA (by omega)]at N;obtain⟨bd,bl⟩:=cU (fr':=gH K u17 L z (i+1) (some a) len cap) s k N o;refine⟨⟨ad,g,tg,me,y,P,ch⟩,u17,w1,?_,c0,c1,c2,c3,c4,c5,c6,dM.of ba,bd,r1.trans (r2.trans (r3.trans (r4.trans (r5.trans (r6.trans (r7.trans (r8.trans (r9.trans (B.trans (U.trans (D.trans (E.trans (Y.trans (ab.trans (al.trans (ar.trans (av.trans (J.trans (M.trans bl)))))))))))))))))))⟩;intro r hr;obtain rfl:=ft.1 hr;refine⟨⟨by simp only;omega,S⟩,g7,?_,?_⟩
 .simp only[f7,dW,decide_eq_true_eq];omega
 .simp only[dZ,dW,decide_eq_true_eq];omega
omit ag in
def a0q{w b a R r}(h:jW w b a R)(h0:w.cell? ⟨b,a+R.length*7,none⟩=some (.int .u32 r.addr))(e:w.cell? ⟨b,a+R.length*7+1,none⟩=some (.int .i64 r.len))(f:w.cell? ⟨b,a+R.length*7+2,none⟩=some (.int .i64 r.tag))(g:w.cell? ⟨b,a+R.length*7+3,none⟩=some (.int .i64 r.met))(i:w.cell? ⟨b,a+R.length*7+4,none⟩=some (.int .i64 r.az))(j:w.cell? ⟨b,a+R.length*7+5,none⟩=some (.int .i64 r.bM))(l:w.cell? ⟨b,a+R.length*7+6,none⟩=some (.bool r.ci)):jW w b a (R++[r]):=by
 intro k m;by_cases d:k<R.length
 .rw[List.getElem_append_left d];exact h k d
 .have:k=R.length:=by simp at m;omega
  subst this;simp only[List.getElem_concat_length];exact⟨h0,e,f,g,i,j,l⟩
def Mm{z a len cap w B}(C:len<=100)(D:B.heap=w.heap.push (.cells #[.slice none 0 0] 46))(M:∀s t,B.heap[a.block]? ≠some (.view s t))(N:dM w.heap.size w B):∀m i u l R,len - i=m->i<=len->R.length=i->fY R->((i=0/\l=B)\/(a.spot=none/\a.block<w.heap.size/\jW w a.block a.off R))->dM w.heap.size w l->iP Stop (gH K u L z i (some a) len cap) (c::fs) l->∃(E:List Rw) (V:Nat->af) (w':aa),E.length=len/\fY E/\fP w (some a) E/\dM w.heap.size w w'/\iP Stop (nC K V L z (some a) len cap) (c::fs) w'/\oa Stop (gH K u L z i (some a) len cap) (c::fs) l (nC K V L z (some a) len cap) (c::fs) w':=by
 have s:=st1 ag;have F:(c::fs)≠[]:=by simp
 intro m;induction m with
 |zero=>
  intro i u l R hm hi n b d p hF;obtain rfl:i=len:=by omega
  obtain⟨u1,O⟩:=tV K z i (some a) i cap u L ((c::fs)++[aB PG]);obtain⟨H,I⟩:=cU s F O hF;rw[decide_eq_false (by omega)]at H I;obtain⟨u2,s2⟩:=xQ K z i (some a) i cap u1 L ((c::fs)++[aB PG]);obtain⟨P,Q⟩:=cU s F s2 H;refine⟨R,u2,l,n,b,?_,p,P,I.trans Q⟩;obtain⟨h0,_⟩|⟨h1,h2,h3⟩:=d
  .exact .inl (fq (by omega))
  .exact .inr ⟨a.block,a.off,by rw[<-h1],h3⟩
 |succ m ih=>
  intro i u l R hm hi n b d p hF;have S:i<len:=by omega
  obtain⟨u1,O⟩:=tV K z i (some a) len cap u L ((c::fs)++[aB PG]);obtain⟨H,I⟩:=cU s F O hF;rw[decide_eq_true (by omega)]at H I;obtain⟨u2,s2⟩:=J5 K z i a len cap u1 L ((c::fs)++[aB PG]);obtain⟨P,Q⟩:=cU s F s2 H;obtain⟨u3,s3⟩:=Lw K z i (some a) len cap u2 L ((c::fs)++[aB PG]);obtain⟨F3,r3⟩:=cU s F s3 P;have y:l.heap[a.block]?=B.heap[a.block]? :=by
   obtain⟨_,h⟩|⟨_,h,_⟩:=d
   .rw[h]
   .rw[p.block _ h,N.block _ h]
  obtain⟨r,u4,w2,hr,J,c1,c2,W,X,Y,Z,T,F4,r4⟩:=Ml ag S C (by rw[y];exact M) F3;have q:a.block<w.heap.size:=by
   obtain⟨_,h⟩|⟨_,h,_⟩:=d
   .subst h;have e0:=World.block_lt_of_cell? _ _ c1;rw[ob,ob]at e0;rw[D,Array.size_push]at e0;refine fx λhn=>?_;have hb:a.block=w.heap.size:=by omega
    have:l.heap[a.block]?=some (.cells #[.slice none 0 0] 46 (0,0)):=by rw[D,hb];simp
    have hc:∀j,(((a.add (i*7)).add j).block)=a.block:=λj=>by rw[ob,ob]
    unfold World.cell? at c1;rw[hc 1,this]at c1;simp only at c1;have:((a.add (i*7)).add 1).off=(a.add (i*7)).off+1:=by simp[Addr.add]
    rw[this]at c1;split at c1
    .cases c1
    .simp at c1
   .exact h
  have A:=MY J;have e:∀x:ap,x.add 0=x:=λx=>by simp[Addr.add]
  rw[e]at A J;have f:a.spot=none:=by
   obtain⟨h,_⟩|⟨h,_⟩:=d
   .subst h;rw[show 0*7=0 from rfl,e]at A;exact A
   .exact h
  have v:a.add (i*7)=⟨a.block,a.off+i*7,none⟩:=by
   unfold Addr.add;split
   .rename_i h;rw[h,<-f];rfl
   .rfl
  have g:∀o:Nat,l.cell? ⟨a.block,o,none⟩=w.cell? ⟨a.block,o,none⟩:=λo=>p.cell (a:=⟨a.block,o,none⟩) q;have hj:∀j,0<j->(a.add (i*7)).add j=⟨a.block,a.off+i*7+j,none⟩:=λj h=>by rw[v];unfold Addr.add;rw[if_neg (by omega)]
  rw[hj _ (by omega),g]at c1 c2 W X Y Z;rw[v,g]at J;have U:jW w a.block a.off R:=by
   obtain⟨h,_⟩|⟨_,_,h⟩:=d
   .have:R=[]:=fq (by omega);subst this;intro k p;cases p
   .exact h
  obtain⟨E,u5,w5,q1,q2,q3,q4,q5,q6⟩:=ih (i+1) u4 w2 (R++[r]) (by omega) (by omega) (by simp[n]) (λx hx=>by
   obtain h|h:=kf.1 hx
   .exact b x h
   .exact hr x h) (.inr ⟨f,q,a0q U (by rw[n];exact J) (by rw[n];exact c1) (by rw[n];exact c2) (by rw[n];exact W) (by rw[n];exact X) (by rw[n];exact Y) (by rw[n];exact Z)⟩) (p.trans (T.mono p.size)) F4
  exact⟨E,u5,w5,q1,q2,q3,q4,q5,I.trans (Q.trans (r3.trans (r4.trans q6)))⟩
def Mi{u x tv w}(B:cO Tryz.progTables.globals.size w)(hF:iP Stop (pU K u L x tv) (c::fs) w):∃(n:Nat) (h:Option ap) (b:Nat) (R:List Rw) (C:Nat->af) (w':aa),n<=8/\R.length<=100/\x=.int .i64 n/\tv=.agg #[.slice h R.length b]/\fY R/\fP w h R/\dM w.heap.size w w'/\iP Stop (nC K C L n h R.length b) (c::fs) w'/\oa Stop (pU K u L x tv) (c::fs) w (nC K C L n h R.length b) (c::fs) w':=by
 have s:=st1 ag;have i:(c::fs)≠[]:=by simp
 obtain⟨n,h,d,b,u1,l,f,rfl,rfl,D,m⟩:=Mj ag hF;obtain⟨u2,o,p,q,e,t,v⟩:=Mk ag D;cases h with
 |none=>
  obtain⟨u3,y⟩:=tV K n 0 none d b u2 L ((c::fs)++[aB PG]);obtain⟨g,j⟩:=cU s i y t;by_cases h0:0<d
  .rw[decide_eq_true (by omega)]at g;exact(jg s i (J4 K n 0 d b u3 L _) g).elim
  .obtain rfl:d=0:=by omega
   rw[decide_eq_false (by omega)]at g j;obtain⟨u4,s4⟩:=xQ K n 0 none 0 b u3 L ((c::fs)++[aB PG]);obtain⟨z,A⟩:=cU s i s4 g;exact⟨n,none,b,[],u4,o,l,by simp,rfl,rfl,λr k=>(by cases k),.inl rfl,e,z,m.trans (v.trans (j.trans A))⟩
 |some a=>
  by_cases h0:0<d
  .obtain⟨R,u3,E,q1,F,q3,H,I,J⟩:=Mm ag f p (q a rfl h0) e (d - 0) 0 u2 o [] rfl (m8 _) rfl (λr k=>(by cases k)) (.inl ⟨rfl,rfl⟩) e t;subst q1;exact⟨n,some a,b,R,u3,E,l,f,rfl,rfl,F,q3,H,I,m.trans (v.trans J)⟩
  .obtain rfl:d=0:=by omega
   obtain⟨u3,y⟩:=tV K n 0 (some a) 0 b u2 L ((c::fs)++[aB PG]);obtain⟨g,j⟩:=cU s i y t;rw[decide_eq_false (by omega)]at g j;obtain⟨u4,s4⟩:=xQ K n 0 (some a) 0 b u3 L ((c::fs)++[aB PG]);obtain⟨z,A⟩:=cU s i s4 g;exact⟨n,some a,b,[],u4,o,l,by simp,rfl,rfl,λr k=>(by cases k),.inl rfl,e,z,m.trans (v.trans (j.trans A))⟩
end
end Go.Proofs.Each
end
