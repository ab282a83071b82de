import Derived.Test.YtdnpeefnobjfaaaGreatDoorK40
set_option maxRecDepth 100000
set_option maxHeartbeats 4000000
set_option linter.all false
section
namespace Go.Mir
open Go Go.Conc
open Go.ConcN (upd upd_ne upd_same)
section
variable{C:aI}{p:cC C}{s s':St}{v Z:aa}{Y t u:aY}{gs:Array aw}{B B':Nat}
def lV{b:Bool}{sp cR:SP}(h:(∃m,sp=.ca b m)\/sp=.lw b\/sp=.sa b\/sp=.sb b\/sp=.ld b\/sp=.aq b)(a:(∃m,cR=.ca b m)\/cR=.lw b\/cR=.sa b\/cR=.sb b\/cR=.ld b\/cR=.aq b)(n:Nat):cR.made n=sp.made n/\cR.aW n=sp.aW n/\cR.cM n=sp.cM n/\cR.closed=sp.closed:=by obtain⟨m,rfl⟩|rfl|rfl|rfl|rfl|rfl:=h<;>obtain⟨m,rfl⟩|rfl|rfl|rfl|rfl|rfl:=a<;>exact⟨rfl,rfl,rfl,rfl⟩
def E3{n:Nat}{G a:Gp}{ph:Nat->Ph}(h:∀k,k<n->(ph k=.la1↔G=.la k)/\(ph k=.lb1↔G=.lb k)/\(ph k=.lc1↔G=.lc k))(d:∀k,G≠.la k/\G≠.lb k/\G≠.lc k)(b:∀k,a≠.la k/\a≠.lb k/\a≠.lc k):∀k,k<n->(ph k=.la1↔a=.la k)/\(ph k=.lb1↔a=.lb k)/\(ph k=.lc1↔a=.lc k):=by intro k e;have c:=h k e;have f:=d k;have g:=b k;simp only[f,g,iff_false]at c⊢;exact c
def E4{n:Nat}{G a:Gp}{ph:Nat->Ph}(h:∀k,k<n->(ph k=.la2↔G=.la k)/\(ph k=.lb2↔G=.lb k)/\(ph k=.lc2↔G=.lc k))(d:∀k,G≠.la k/\G≠.lb k/\G≠.lc k)(b:∀k,a≠.la k/\a≠.lb k/\a≠.lc k):∀k,k<n->(ph k=.la2↔a=.la k)/\(ph k=.lb2↔a=.lb k)/\(ph k=.lc2↔a=.lc k):=by intro k e;have c:=h k e;have f:=d k;have g:=b k;simp only[f,g,iff_false]at c⊢;exact c
def MO(y:p.Ok)(N:∀c,C.SB c->c<C.B0)(I:p.Inv Y s gs v t){g:aw}{sl:Option (Nat×Nat)}(O:gs[0]?=some g){m:Nat}(a:s.sp=.ca false m)(R:p.CA 1 m g)(P:Deaf t 0=1):p.Goes Y s gs v t 0 sl:=by
 obtain⟨_,V,W,j,h,⟨_,S,z,A,D⟩,⟨_,T,E,F,H⟩⟩:=y.ca _ _ _ R;have Q:=cP I.hp.rb;have x:s.G1=.idle:=by have:=I.ctl.s1;rw[a]at this;exact this
 have l:s.G2=.idle:=by have:=I.ctl.s2;rw[a]at this;exact this
 have J:s.G1.st (C.a1 s)=(C.a1 s:Int)*KK:=by rw[x];rfl
 have X:=I.ctl.ni false m a;have K:∀k,s.G1≠.la k/\s.G1≠.lb k/\s.G1≠.lc k:=λk=>by rw[x];simp
 by_cases i:(m:Int)*KK=s.G1.st (C.a1 s)
 .obtain⟨L,o,q,w⟩:=lV (sp:=s.sp) (cR:=.sa false) (.inl ⟨m,a⟩) (.inr (.inr (.inl rfl))) C.n;have d:=j v (by rw[i];exact Hp.og I.hp) (Hp.thaw I.hp 1);have M:m=C.a1 s:=by rw[J]at i;unfold KK at i;omega
  have f:C.stage s=20:=by unfold aI.stage;rw[a];exact if_pos i
  refine iW y N I O d (.sa false) S .reg s.G2 (kt ⟨1,by simp,.inl rfl⟩ Q) cY.1 cY.2.1 cY.2.2 ?_ L o q w ?_ ⟨z,by rw[P];exact A,D⟩ (by rw[f];show 19<20;decide)
  .rw[show(C.ca 1)=⟨C.r,1,none⟩from rfl,gp I.hp.rb,x,M];simp[aI.fc,Gp.st,Gp.sm]
  .refine iB I.ctl ⟨trivial,o,q,w⟩ ?_ ?_ ?_ ?_ ?_ ?_ ?_ ?_ (λb m e=>by cases e)
   .exact E3 I.ctl.g1 K (λk=>by simp)
   .exact λk U=>by obtain e|e|e:=U<;>cases e
   .exact I.ctl.g2
   .exact I.ctl.ef
   .show 0<C.a1 s;omega
   .exact I.ctl.z2
   .exact⟨by simp,by simp⟩
   .exact l
 .obtain⟨L,o,q,w⟩:=lV (sp:=s.sp) (cR:=.lw false) (.inl ⟨m,a⟩) (.inr (.inl rfl)) C.n;have d:=h v _ (Hp.og I.hp) (Hp.thaw I.hp 1) (λe=>i e.symm);have f:C.stage s=22:=by unfold aI.stage;rw[a];exact if_neg i
  refine iW y N I O d (.lw false) T s.G1 s.G2 (kt ⟨1,by simp,.inr (.inl rfl)⟩ Q) (λ_ _=>rfl) rfl rfl I.hp.rb L o q w ?_ ⟨E,by rw[P];exact F,H⟩ (by rw[f];show 21<22;decide);exact iB I.ctl ⟨trivial,o,q,w⟩ I.ctl.g1 I.ctl.ee I.ctl.g2 I.ctl.ef I.ctl.z1 I.ctl.z2 x l (λb m e=>by cases e)
def a0t(x:p.Ok)(J:∀c,C.SB c->c<C.B0)(I:p.Inv Y s gs v t){g:aw}{sl:Option (Nat×Nat)}(K:gs[0]?=some g)(a:s.sp=.sa false)(L:p.SA 1 g)(M:Deaf t 0=1):p.Goes Y s gs v t 0 sl:=by
 obtain⟨_,_,R,j,i,_,O,y,z,A⟩:=x.sa _ _ L;have P:=cP I.hp.rb;have D:=I.ctl.s1;rw[a]at D;have l:s.G2=.idle:=by have:=I.ctl.s2;rw[a]at this;exact this
 have f:C.stage s=19:=by unfold aI.stage;rw[a]
 by_cases hrel:s.G1=.rel
 .obtain⟨E,o,q,w⟩:=lV (sp:=s.sp) (cR:=.ld false) (.inr (.inr (.inl a))) (.inr (.inr (.inr (.inr (.inl rfl))))) C.n;have N:C.a1 s=0:=by have:=I.ctl.z1;rw[hrel]at this;exact this
  have d:=j v _ (Hp.yq I.hp) (by rw[hrel];decide) (Hp.thaw I.hp 2);have F:∀k,s.G1≠.la k/\s.G1≠.lb k/\s.G1≠.lc k:=λk=>by rw[hrel];simp
  refine iW x J I K d (.ld false) O .over s.G2 (kt ⟨2,by simp,.inr (.inr (.inr rfl))⟩ P) cY.1 cY.2.1 cY.2.2 ?_ E o q w ?_ ⟨y,by rw[M];exact z,A⟩ (by rw[f];show 17<19;decide)
  .rw[show(C.ca 2)=⟨C.r,2,none⟩from rfl];show(v.setCell ⟨C.r,2,none⟩ (.int .u32 (s.G1.sm - 1))).heap[C.r]?=_;rw[gp I.hp.rb,hrel,N];simp[aI.fc,Gp.st,Gp.sm]
  .refine iB I.ctl ⟨trivial,o,q,w⟩ ?_ ?_ ?_ ?_ ?_ ?_ ?_ ?_ (λb m e=>by cases e)
   .exact E3 I.ctl.g1 F (λk=>by simp)
   .exact λk Q=>by obtain e|e|e:=Q<;>cases e
   .exact I.ctl.g2
   .exact I.ctl.ef
   .exact N
   .exact I.ctl.z2
   .rfl
   .exact l
 .obtain⟨E,o,q,w⟩:=lV (sp:=s.sp) (cR:=.sb false) (.inr (.inr (.inl a))) (.inr (.inr (.inr (.inl rfl)))) C.n;have H:s.G1.sm=0:=by cases h:s.G1<;>first|rfl|exact absurd h hrel
  have d:=i v (by rw[<-H];exact Hp.yq I.hp);refine iW x J I K d (.sb false) 0 s.G1 s.G2 (by simp) (λ_ _=>rfl) rfl rfl I.hp.rb E o q w ?_ ⟨by rw[M];rfl,g,L,rfl⟩ (by rw[f];show 18<19;decide);exact iB I.ctl ⟨trivial,o,q,w⟩ I.ctl.g1 I.ctl.ee I.ctl.g2 I.ctl.ef I.ctl.z1 I.ctl.z2 ⟨D.1,D.2,hrel⟩ l (λb m e=>by cases e)
def Uc(o:p.Ok)(y:∀c,C.SB c->c<C.B0)(I:p.Inv Y s gs v t){g:aw}{sl:Option (Nat×Nat)}(z:gs[0]?=some g)(a:s.sp=.ld false)(A:p.LD 1 g)(D:Deaf t 0=1):p.Goes Y s gs v t 0 sl:=by
 obtain⟨_,J,d,_,E,i,j,k⟩:=o.ld _ _ A;have F:=cP I.hp.rb;have q:s.G1=.over:=by have:=I.ctl.s1;rw[a]at this;exact this
 have l:s.G2=.idle:=by have:=I.ctl.s2;rw[a]at this;exact this
 have f:C.stage s=17:=by unfold aI.stage;rw[a]
 obtain⟨H,r,w,x⟩:=lV (sp:=s.sp) (cR:=.aq false) (.inr (.inr (.inr (.inr (.inl a))))) (.inr (.inr (.inr (.inr (.inr rfl))))) C.n;have h:=d v (by have:=Hp.og I.hp;rw[q]at this;exact this);refine iW o y I z h (.aq false) E s.G1 s.G2 (kt ⟨1,by simp,.inr (.inl rfl)⟩ F) (λ_ _=>rfl) rfl rfl I.hp.rb H r w x ?_ ⟨i,by rw[D];exact j,k⟩ (by rw[f];show 16<17;decide);exact iB I.ctl ⟨trivial,r,w,x⟩ I.ctl.g1 I.ctl.ee I.ctl.g2 I.ctl.ef I.ctl.z1 I.ctl.z2 q l (λb m e=>by cases e)
def MP(y:p.Ok)(N:∀c,C.SB c->c<C.B0)(I:p.Inv Y s gs v t){g:aw}{sl:Option (Nat×Nat)}(O:gs[0]?=some g){m:Nat}(a:s.sp=.ca true m)(R:p.CA 4 m g)(P:Deaf t 0=1):p.Goes Y s gs v t 0 sl:=by
 obtain⟨_,V,W,j,h,⟨_,S,z,A,D⟩,⟨_,T,E,F,H⟩⟩:=y.ca _ _ _ R;have Q:=cP I.hp.rb;have x:s.G2=.idle:=by have:=I.ctl.s2;rw[a]at this;exact this
 have l:s.G1=.over:=by have:=I.ctl.s1;rw[a]at this;exact this
 have J:s.G2.st (C.a2 s)=(C.a2 s:Int)*KK:=by rw[x];rfl
 have X:=I.ctl.ni true m a;have K:∀k,s.G2≠.la k/\s.G2≠.lb k/\s.G2≠.lc k:=λk=>by rw[x];simp
 by_cases i:(m:Int)*KK=s.G2.st (C.a2 s)
 .obtain⟨L,o,q,w⟩:=lV (sp:=s.sp) (cR:=.sa true) (.inl ⟨m,a⟩) (.inr (.inr (.inl rfl))) C.n;have d:=j v (by rw[i];exact Hp.oh I.hp) (Hp.thaw I.hp 4);have M:m=C.a2 s:=by rw[J]at i;unfold KK at i;omega
  have f:C.stage s=12:=by unfold aI.stage;rw[a];exact if_pos i
  refine iW y N I O d (.sa true) S s.G1 .reg (kt ⟨4,by simp,.inl rfl⟩ Q) cY.1 cY.2.1 cY.2.2 ?_ L o q w ?_ ⟨z,by rw[P];exact A,D⟩ (by rw[f];show 11<12;decide)
  .rw[show(C.ca 4)=⟨C.r,4,none⟩from rfl,gp I.hp.rb,x,M];simp[aI.fc,Gp.st,Gp.sm]
  .refine iB I.ctl ⟨trivial,o,q,w⟩ ?_ ?_ ?_ ?_ ?_ ?_ ?_ ?_ (λb m e=>by cases e)
   .exact I.ctl.g1
   .exact I.ctl.ee
   .exact E4 I.ctl.g2 K (λk=>by simp)
   .exact λk U=>by obtain e|e|e:=U<;>cases e
   .exact I.ctl.z1
   .show 0<C.a2 s;omega
   .exact l
   .exact⟨by simp,by simp⟩
 .obtain⟨L,o,q,w⟩:=lV (sp:=s.sp) (cR:=.lw true) (.inl ⟨m,a⟩) (.inr (.inl rfl)) C.n;have d:=h v _ (Hp.oh I.hp) (Hp.thaw I.hp 4) (λe=>i e.symm);have f:C.stage s=14:=by unfold aI.stage;rw[a];exact if_neg i
  refine iW y N I O d (.lw true) T s.G1 s.G2 (kt ⟨4,by simp,.inr (.inl rfl)⟩ Q) (λ_ _=>rfl) rfl rfl I.hp.rb L o q w ?_ ⟨E,by rw[P];exact F,H⟩ (by rw[f];show 13<14;decide);exact iB I.ctl ⟨trivial,o,q,w⟩ I.ctl.g1 I.ctl.ee I.ctl.g2 I.ctl.ef I.ctl.z1 I.ctl.z2 l x (λb m e=>by cases e)
def a0u(x:p.Ok)(J:∀c,C.SB c->c<C.B0)(I:p.Inv Y s gs v t){g:aw}{sl:Option (Nat×Nat)}(K:gs[0]?=some g)(a:s.sp=.sa true)(L:p.SA 4 g)(M:Deaf t 0=1):p.Goes Y s gs v t 0 sl:=by
 obtain⟨_,_,R,j,i,_,O,y,z,A⟩:=x.sa _ _ L;have P:=cP I.hp.rb;have D:=I.ctl.s2;rw[a]at D;have l:s.G1=.over:=by have:=I.ctl.s1;rw[a]at this;exact this
 have f:C.stage s=11:=by unfold aI.stage;rw[a]
 by_cases hrel:s.G2=.rel
 .obtain⟨E,o,q,w⟩:=lV (sp:=s.sp) (cR:=.ld true) (.inr (.inr (.inl a))) (.inr (.inr (.inr (.inr (.inl rfl))))) C.n;have N:C.a2 s=0:=by have:=I.ctl.z2;rw[hrel]at this;exact this
  have d:=j v _ (Hp.yr I.hp) (by rw[hrel];decide) (Hp.thaw I.hp 5);have F:∀k,s.G2≠.la k/\s.G2≠.lb k/\s.G2≠.lc k:=λk=>by rw[hrel];simp
  refine iW x J I K d (.ld true) O s.G1 .over (kt ⟨5,by simp,.inr (.inr (.inr rfl))⟩ P) cY.1 cY.2.1 cY.2.2 ?_ E o q w ?_ ⟨y,by rw[M];exact z,A⟩ (by rw[f];show 9<11;decide)
  .rw[show(C.ca 5)=⟨C.r,5,none⟩from rfl];show(v.setCell ⟨C.r,5,none⟩ (.int .u32 (s.G2.sm - 1))).heap[C.r]?=_;rw[gp I.hp.rb,hrel,N];simp[aI.fc,Gp.st,Gp.sm]
  .refine iB I.ctl ⟨trivial,o,q,w⟩ ?_ ?_ ?_ ?_ ?_ ?_ ?_ ?_ (λb m e=>by cases e)
   .exact I.ctl.g1
   .exact I.ctl.ee
   .exact E4 I.ctl.g2 F (λk=>by simp)
   .exact λk Q=>by obtain e|e|e:=Q<;>cases e
   .exact I.ctl.z1
   .exact N
   .exact l
   .rfl
 .obtain⟨E,o,q,w⟩:=lV (sp:=s.sp) (cR:=.sb true) (.inr (.inr (.inl a))) (.inr (.inr (.inr (.inl rfl)))) C.n;have H:s.G2.sm=0:=by cases h:s.G2<;>first|rfl|exact absurd h hrel
  have d:=i v (by rw[<-H];exact Hp.yr I.hp);refine iW x J I K d (.sb true) 0 s.G1 s.G2 (by simp) (λ_ _=>rfl) rfl rfl I.hp.rb E o q w ?_ ⟨by rw[M];rfl,g,L,rfl⟩ (by rw[f];show 10<11;decide);exact iB I.ctl ⟨trivial,o,q,w⟩ I.ctl.g1 I.ctl.ee I.ctl.g2 I.ctl.ef I.ctl.z1 I.ctl.z2 l ⟨D.1,D.2,hrel⟩ (λb m e=>by cases e)
def Ud(o:p.Ok)(y:∀c,C.SB c->c<C.B0)(I:p.Inv Y s gs v t){g:aw}{sl:Option (Nat×Nat)}(z:gs[0]?=some g)(a:s.sp=.ld true)(A:p.LD 4 g)(D:Deaf t 0=1):p.Goes Y s gs v t 0 sl:=by
 obtain⟨_,J,d,_,E,i,j,k⟩:=o.ld _ _ A;have F:=cP I.hp.rb;have q:s.G2=.over:=by have:=I.ctl.s2;rw[a]at this;exact this
 have l:s.G1=.over:=by have:=I.ctl.s1;rw[a]at this;exact this
 have f:C.stage s=9:=by unfold aI.stage;rw[a]
 obtain⟨H,r,w,x⟩:=lV (sp:=s.sp) (cR:=.aq true) (.inr (.inr (.inr (.inr (.inl a))))) (.inr (.inr (.inr (.inr (.inr rfl))))) C.n;have h:=d v (by have:=Hp.oh I.hp;rw[q]at this;exact this);refine iW o y I z h (.aq true) E s.G1 s.G2 (kt ⟨4,by simp,.inr (.inl rfl)⟩ F) (λ_ _=>rfl) rfl rfl I.hp.rb H r w x ?_ ⟨i,by rw[D];exact j,k⟩ (by rw[f];show 8<9;decide);exact iB I.ctl ⟨trivial,r,w,x⟩ I.ctl.g1 I.ctl.ee I.ctl.g2 I.ctl.ef I.ctl.z1 I.ctl.z2 l q (λb m e=>by cases e)
end
section
variable{C:aI}{p:cC C}{s s':St}{v v1:aa}{t0 t u:aY}{gs:Array aw}{B B':Nat}
def L3(k:p.Ok)(n:∀c,C.SB c->c<C.B0)(I:p.Inv t0 s gs v t){g sl}(o:gs[0]?=some g)(d:s.sp=.aq false)(q:p.AQ 1 g)(r:Deaf t 0=0):p.Goes t0 s gs v t 0 sl:=by
 obtain⟨_,E,f,_,h,_⟩:=k.aq _ _ q;obtain⟨m,w,x,y⟩:=h rfl;have z:=cP I.hp.rb;have A:s.G1=.over:=by have:=I.ctl.s1;rw[d]at this;exact this
 have j:s.G2=.idle:=by have:=I.ctl.s2;rw[d]at this;exact this
 have i:C.stage s=16:=by unfold aI.stage;rw[d]
 refine iW k n I o (f v (gq I.hp)) .cl m s.G1 s.G2 (λe l=>?_) (λ_ _=>rfl) rfl rfl I.hp.rb (by rw[d];rfl) (by rw[d];rfl) (by rw[d];rfl) (by rw[d];rfl) ?_ ⟨w,by rw[r];exact x,y⟩ (by rw[i];show 15<16;decide)
 .simp only[dK,cm,dP,or_false]at l;subst l;exact⟨λa D=>(by cases D),z,by simp[MemAct.ofEvent]⟩
 .exact iB I.ctl ⟨trivial,by rw[d];rfl,by rw[d];rfl,by rw[d];rfl⟩ I.ctl.g1 I.ctl.ee I.ctl.g2 I.ctl.ef I.ctl.z1 I.ctl.z2 A j (λb m e=>by cases e)
def Ns(hp:p.Ok)(hS:∀c,C.SB c->c<C.B0)(I:p.Inv t0 s gs v t){g sl}(hg:gs[0]?=some g)(o:s.sp=.cl)(hA:p.CL g)(hd:Deaf t 0=0):p.Goes t0 s gs v t 0 sl:=by
 obtain⟨_,ab,g7,ad,L,m,g',hQ,hX⟩:=hp.cl _ hA;have r:=I.hp.dc;rw[o]at r;have hG:s.G1=.over:=by have:=I.ctl.s1;rw[o]at this;exact this
 have ae:s.G2=.idle:=by have:=I.ctl.s2;rw[o]at this;exact this
 have hz:C.a1 s=0:=by have:=I.ctl.z1;rw[hG]at this;exact this
 have R:C.stage s=15:=by unfold aI.stage;rw[o]
 have M:=I.cls.ge;have S:=L v r;have H:∀i,i<C.n->(s.ph i).num<=8:=λi l=>by
  have h1:(s.ph i).dm=false:=ut.1 hz i l;have A:=I.ctl.g1 i l;rw[hG]at A;have n1:s.ph i≠.la1:=λe=>by have:=A.1.1 e;cases this
  have n2:s.ph i≠.lb1:=λe=>by have:=A.2.1.1 e;cases this
  have n3:s.ph i≠.lc1:=λe=>by have:=A.2.2.1 e;cases this
  revert h1 n1 n2 n3;cases s.ph i<;>decide
 let f:Ph->Ph:=λx=>if x=.park2 then .wok2 else x
 have J:∀x,(f x).dm=x.dm/\(f x).dn=x.dn/\(f x).cD=x.cD/\(f x).said=x.said/\(f x=.unborn↔x=.unborn)/\(f x=.park1↔x=.park1)/\f x≠.park2/\(f x).num<=x.num:=by intro x;cases x<;>decide
 have T:∀x,(f x=.la1↔x=.la1)/\(f x=.lb1↔x=.lb1)/\(f x=.lc1↔x=.lc1)/\(f x=.la2↔x=.la2)/\(f x=.lb2↔x=.lb2)/\(f x=.lc2↔x=.lc2):=by intro x;cases x<;>decide
 let s':St:={s with sp:=.lw true,m0:=m,ph:=λi=>if i<C.n then f (s.ph i)else s.ph i};have d:∀i,i<C.n->s'.ph i=f (s.ph i):=λi l=>if_pos l;have e1:C.a1 s'=C.a1 s:=nn λi l=>by rw[d i l];exact(J (s.ph i)).1
 have e2:C.a2 s'=C.a2 s:=nn λi l=>by rw[d i l];exact(J (s.ph i)).2.1
 have w:∀c,c≠C.dc->(v.setChan C.dc 0 #[] true 0 0 false).heap[c]?=v.heap[c]? :=λc N=>kp N;have D:(v.setChan C.dc 0 #[] true 0 0 false).heap.size=v.heap.size:=by simp[World.setChan]
 have U:p.Hp s' (v.setChan C.dc 0 #[] true 0 0 false):=by
  refine⟨?_,?_,ur r,λc N=>?_,I.hp.os,λi l=>?_⟩
  .rw[w _ M.2.2.2.2.1,e1,e2];exact I.hp.rb
  .rw[w _ M.2.2.2.2.2];exact I.hp.tb
  .rw[w c (by omega)];exact I.hp.old c N
  .have V:i<s.sp.made C.n:=by rw[o];exact l
   rw[w _ (rp I.cls V).2.2];have:=I.hp.ch i V;rw[o]at this;show v.heap[s.cb i]?=some (if i<C.n then (if (s'.ph i).cD then _ else _)else _);rw[d i l,(J (s.ph i)).2.2.1];exact this
 have K:C.dL s' (v.setChan C.dc 0 #[] true 0 0 false).heap.size:=by rw[D];obtain⟨ag,sh,W,ch,wk,ge⟩:=I.cls;exact⟨ag,sh,W,λi l=>ch i (by rw[o];exact l),λc i N=>by have:=wk c i N;rw[o]at this;exact this,ge⟩
 have al:∀k,C.Fr k (s.own k) v (v.setChan C.dc 0 #[] true 0 0 false):=λk=>by refine vr (gq U) (by rw[D];exact aF _) (λc N=>w c λe=>?_) (w _ M.2.2.2.2.2);have h1:s.cls c=.wk k:=N;rw[e,I.cls.sh.2.2]at h1;cases h1
 have X:C.dQ s':=by
  refine⟨I.ctl.n8,trivial,λi l=>?_,λi l Y=>?_,λi l Y=>?_,λh=>(by cases h),λ_ i l=>?_,λi l=>?_,?_,λi l=>?_,?_,?_,?_,hG,ae,λb m e=>(by cases e)⟩
  .have:=I.ctl.born i l;rw[o]at this;rw[d i l];exact(J _).2.2.2.2.1.trans this
  .rw[d i l]at Y;have:=I.ctl.ll i l ((J _).2.2.2.2.2.1.1 Y);rw[o]at this;exact this
  .exact l
  .rw[d i l];exact⟨dF (J (s.ph i)).2.2.2.2.2.2.2 (H i l),(J (s.ph i)).2.2.2.2.2.2.1⟩
  .have:=I.ctl.g1 i l;have A:=T (s.ph i);rw[d i l];exact⟨A.1.trans this.1,A.2.1.trans this.2.1,A.2.2.1.trans this.2.2⟩
  .exact I.ctl.ee
  .have:=I.ctl.g2 i l;have A:=T (s.ph i);rw[d i l];exact⟨A.2.2.2.1.trans this.1,A.2.2.2.2.1.trans this.2.1,A.2.2.2.2.2.trans this.2.2⟩
  .exact I.ctl.ef
  .rw[e1];exact I.ctl.z1
  .rw[e2];exact I.ctl.z2
 have O:∀i x,i<s.sp.aW C.n->gs[C.N0+i]?=some x->p.eU i (s'.cb i) (s'.ph i) (s'.rk i) (s.q (C.N0+i)) (s'.own i) (Deaf t (C.N0+i)) (woken C.P g g7 (v.setChan C.dc 0 #[] true 0 0 false) x) (v.setChan C.dc 0 #[] true 0 0 false):=by
  intro i x l Y;have Q:i<C.n:=cG l (gM I.ctl);have hW:=pn hp (I.work i x l Y) (al i);by_cases y:s.ph i=.park2
  .rw[d i Q];show p.eU i (s.cb i) (f (s.ph i)) (s.rk i) (s.q (C.N0+i)) (s.own i) (Deaf t (C.N0+i)) _ _;rw[y]at hW⊢;obtain⟨hT,g',ao,rfl,aq⟩:=hW;refine⟨hT,g',ao,?_,aq⟩;have hw:(mayWake C.P g&&g7.status !=.blocked&&g7.status !=.waiting)=true:=by rw[ab,ad];rfl
   unfold woken;rw[if_pos hw];exact again_some_closed (k:=1) (c:=C.dc) (z:=p.zD) (by simp[cC.cases]) (ur r)
  .have ar:f (s.ph i)=s.ph i:=if_neg y;rw[d i Q];show p.eU i (s.cb i) (f (s.ph i)) (s.rk i) (s.q (C.N0+i)) (s.own i) (Deaf t (C.N0+i)) _ _;rw[ar];have hw:woken C.P g g7 (v.setChan C.dc 0 #[] true 0 0 false) x=x:=by
    obtain⟨Z,_⟩|⟨_,hr|⟨_,au⟩⟩:=nQ hp hW
    .rcases Z with h|h
     .have:=H i Q;rw[h]at this;exact absurd this (by decide)
     .exact absurd h y
    .exact woken_run hr
    .unfold woken;split
     .exact again_running _ (.inr au)
     .rfl
   rw[hw];exact hW
 have av:∀e∈(#[⟨.obj C.dc,false,true⟩,⟨.obj C.dc,true,true⟩]:Array aJ),Ev0 C s' (v.setChan C.dc 0 #[] true 0 0 false).heap.size e:=by
  intro e he;simp only[dK,cm,dP,or_false]at he;obtain rfl|rfl:=he
  .refine⟨λa ha _=>?_,by rw[D];exact cP r,by simp[MemAct.ofEvent]⟩;simp only[MemAct.ofEvent,MemAct.touch?,cw,if_true]at ha;subst ha;exact .inr (.inr ⟨.inr rfl,by simp,by simp⟩)
  .exact⟨λa ha=>(by cases ha),by rw[D];exact cP r,by simp[MemAct.ofEvent]⟩
 refine vQ (s':=s') hp I hg S rfl (by rw[o];rfl) ⟨g',by rw[hd];exact hQ,hX⟩ O U K X (tJ (s':=s') hS I av (by rw[D];exact aF _) K (by rw[o];rfl) (λ_ _ h=>h) (λk hk h=>by rw[d k hk,(J (s.ph k)).2.2.2.1]at h;exact h) _ _) ?_;have E:C.dV s'=C.dV s\/mf (C.N0+C.n) (C.dV s') (C.dV s):=by
  refine QQ (C.N0+C.n) _ _ (λj hj=>?_) (λj hj=>?_)
  .unfold aI.dV;by_cases F:j<C.N0
   .exact .inl (by simp only[F,if_true,s'])
   .simp only[F,if_false];rw[d _ (by omega)];by_cases y:s.ph (j - C.N0)=.park2
    .rw[y];exact .inr (.num (by decide))
    .rw[show f (s.ph (j - C.N0))=s.ph (j - C.N0)from if_neg y];exact .inl rfl
  .unfold aI.dV;have F: ¬j<C.N0:=by omega
   have aP: ¬(j - C.N0<C.n):=by omega
   simp only[F,if_false,s',aP]
 obtain h|h:=E
 .exact .inr ⟨h,.inl (by rw[R];show 13<15;decide)⟩
 .exact .inl h
end
section
variable{C:aI}{p:cC C}{s s':St}{v v1:aa}{t0 t u:aY}{gs:Array aw}{B B':Nat}
def jr{o c}(h:c<v.heap.size):({v with heap:=v.heap.push o}:aa).heap[c]?=v.heap[c]? :=by show(v.heap.push o)[c]?=_;rw[fe,if_neg (by omega)]
def Hn{o}:({v with heap:=v.heap.push o}:aa).heap[v.heap.size]?=some o:=by show(v.heap.push o)[v.heap.size]?=_;rw[fe,if_pos rfl]
def U7(L:p.Ok)(T:∀c,C.SB c->c<C.B0)(I:p.Inv t0 s gs v t){g sl}(U:gs[0]?=some g){k}(a:s.sp=.mk k)(V:p.MK k g)(W:Deaf t 0=0):p.Goes t0 s gs v t 0 sl:=by
 obtain⟨_,X,q,A⟩:=L.sI _ _ V;obtain⟨_,m,S,Y,Z⟩:=A v.heap.size;have D:=q v (gq I.hp);have M:k<C.n:=by have:=I.ctl.kI;rw[a]at this;exact this
 have N:=I.cls.ge;have ab:=yh I.hp I.cls;obtain⟨hr,O,P⟩:=I.cls.sh;obtain⟨tc,d,_⟩:=I.hp.tb;have hG:s.G1=.idle:=by have:=I.ctl.s1;rw[a]at this;exact this
 have Q:s.G2=.idle:=by have:=I.ctl.s2;rw[a]at this;exact this
 let s':St:={s with sp:=.go k,m0:=m,cb:=upd s.cb k v.heap.size,cls:=upd s.cls v.heap.size (.ch k)};have w:s.cls v.heap.size=.free:=I.cls.free _ (aF _);have f:∀i,s'.own i=s.own i:=λi=>by
  funext c;show(upd s.cls v.heap.size (.ch k) c=.wk i)=(s.cls c=.wk i);by_cases e:c=v.heap.size
  .subst e;rw[upd_same,w];simp
  .rw[upd_ne _ _ e]
 have x:∀i,i<s.sp.made C.n->s.cb i<v.heap.size:=λi j=>cP (I.hp.ch i j);have E:p.Hp s' {v with heap:=v.heap.push (.chan 1 #[] false 0 0 false)}:=by
  refine⟨?_,⟨tc,?_,by obtain⟨ad,y,h2⟩:=I.hp.tb;rw[d]at y;cases y;exact h2⟩,?_,λc l=>?_,I.hp.os,λi j=>?_⟩
  .rw[jr (cP I.hp.rb)];exact I.hp.rb
  .rw[jr (cP d)];exact d
  .rw[jr (cP I.hp.dc)];have:=I.hp.dc;rw[a]at this;exact this
  .rw[jr (by omega)];exact I.hp.old c l
  .have F:i<k+1:=j;show _=some (if i<k then (if (s.ph i).cD then _ else _)else _);by_cases e:i=k
   .subst e;show({v with heap:=v.heap.push (.chan 1 #[] false 0 0 false)}:aa).heap[upd s.cb i v.heap.size i]?=_;rw[upd_same,Hn,if_neg (by omega)]
   .show({v with heap:=v.heap.push (.chan 1 #[] false 0 0 false)}:aa).heap[upd s.cb k v.heap.size i]?=_;have H:i<s.sp.made C.n:=by rw[a];show i<k;omega
    rw[upd_ne _ _ e,jr (x i H),I.hp.ch i H,a];rfl
 have z:({v with heap:=v.heap.push (.chan 1 #[] false 0 0 false)}:aa).heap.size=v.heap.size+1:=by show(v.heap.push _).size=_;simp
 have o:C.dL s' ({v with heap:=v.heap.push (.chan 1 #[] false 0 0 false)}:aa).heap.size:=by
  rw[z];refine⟨λc l=>?_,⟨?_,?_,?_⟩,λc l=>?_,λi j=>?_,λc i l=>?_,N⟩
  .show upd s.cls v.heap.size (.ch k) c=.old;rw[upd_ne _ _ (by omega)];exact I.cls.old c l
  .show upd s.cls v.heap.size (.ch k) C.r=.sh;rw[upd_ne _ _ (by have:=cP I.hp.rb;omega)];exact hr
  .show upd s.cls v.heap.size (.ch k) C.tb=.sh;rw[upd_ne _ _ (by have:=cP d;omega)];exact O
  .show upd s.cls v.heap.size (.ch k) C.dc=.sh;rw[upd_ne _ _ (by have:=cP I.hp.dc;omega)];exact P
  .show upd s.cls v.heap.size (.ch k) c=.free;rw[upd_ne _ _ (by omega)];exact I.cls.free c (by omega)
  .have F:i<k+1:=j;show upd s.cls v.heap.size (.ch k) (upd s.cb k v.heap.size i)=.ch i;by_cases e:i=k
   .subst e;rw[upd_same,upd_same]
   .have H:i<s.sp.made C.n:=by rw[a];show i<k;omega
    rw[upd_ne _ _ e,upd_ne _ _ (by have:=x i H;omega)];exact I.cls.ch i H
  .have y:s.own i c:=by rw[<-f i];exact l
   have:=I.cls.wk c i y;rw[a]at this;exact this
 have R:∀i,C.Fr i (s.own i) v {v with heap:=v.heap.push (.chan 1 #[] false 0 0 false)}:=λi=>
  vr (gq E) (by rw[z];omega) (λc l=>jr (by
   apply fx;intro hn;have y:s.cls c=.wk i:=l;rw[I.cls.free c (by omega)]at y;cases y)) (jr (cP d))
 have J:C.dQ s':=pE (s:={s with sp:=.go k,m0:=m,G1:=s.G1,G2:=s.G2}) (iB I.ctl ⟨M,by rw[a];rfl,by rw[a];rfl,by rw[a];rfl⟩ I.ctl.g1 I.ctl.ee I.ctl.g2 I.ctl.ef I.ctl.z1 I.ctl.z2 hG Q (λb m e=>by cases e)) rfl rfl rfl rfl;have K:C.stage s=30+3*(C.n - k):=by unfold aI.stage;rw[a]
 refine vQ (s':=s') L I U D rfl (by rw[a];rfl) ⟨S,by rw[W];exact Y,?_⟩ (BW (s':=s') L I rfl rfl (λi j=>?_) f (λ_=>?_) (λi j=>jr (x i (sF j))) R g (X v.heap.size)) E o J (tJ (s':=s') T I (by simp) (by rw[z];omega) o (by rw[a];rfl) (λi c h=>by rw[f];exact h) (λ_ _ h=>h) _ _) (.inr ⟨wR rfl rfl rfl,.inl (by rw[K];show 29+3*(C.n - k)<_;omega)⟩)
 .show p.GO k (upd s.cb k v.heap.size k) S;rw[upd_same];exact Z
 .have F:i<k:=by rw[a]at j;exact j
  exact upd_ne _ _ (by omega)
 .have:=I.hp.dc;rw[a]at this;exact⟨_,_,_,_,_,(jr (cP this)).trans this⟩
def Sm(hp:p.Ok)(hS:∀c,C.SB c->c<C.B0)(I:p.Inv t0 s gs v t){g sl}(hg:gs[0]?=some g){k}(a:s.sp=.go k)(hA:p.GO k (s.cb k) g)(hd:Deaf t 0=0):p.Goes t0 s gs v t 0 sl:=by
 obtain⟨_,Z,g2,J,⟨m,g',hQ,hX⟩,N⟩:=hp.go _ _ _ hA;have O:=I.pos;have R:k<C.n:=by have:=I.ctl.kI;rw[a]at this;exact this
 have ab:gs.size=C.N0+k:=by have:=I.size;rw[a]at this;exact this
 have hG:s.G1=.idle:=by have:=I.ctl.s1;rw[a]at this;exact this
 have S:s.G2=.idle:=by have:=I.ctl.s2;rw[a]at this;exact this
 have K:=runT_crowd_spawn (P:=C.P) (sl:=sl) (i:=0) hg (show stepG C.P (0==0) g v=_ from J v);have o:s.ph k=.unborn:=(I.ctl.born k R).2 (by rw[a];exact aF _);obtain⟨ρ,hρ⟩:=N v (gq I.hp);have T:s.own k=λ_=>False:=by funext c;refine propext ⟨λh=>?_,False.elim⟩;have:=I.cls.wk c k h;rw[a]at this;exact absurd this (by simp[SP.aW])
 let x:MemOp:={g:=0,fn:=g.frame.fn,pos:=g.frame.place,act:=.go gs.size};let y:MemOp:={g:=gs.size,fn:=g2.frame.fn,pos:=g.frame.place,act:=.start};have Y:∀j,Deaf (t++#[x,y]) j=Deaf t j:=λj=>ry λA d=>by
  simp only[dK,cm,dP,or_false]at d;obtain rfl|rfl:=d
  .exact⟨by simp[x],by simp[x]⟩
  .exact⟨by simp[y],by simp[y]⟩
 let s':St:={s with sp:=.snd k,m0:=m,ph:=upd s.ph k .ready,rk:=upd s.rk k ρ};have H:∀j,j<gs.size->j≠0->((gs.setIfInBounds 0 Z).push g2)[j]?=gs[j]? :=λj hj h0=>by rw[fe,if_neg (by simp;omega),di (by omega)]
 have U:∀A∈(#[x,y]:aY),A.act.touch?=none:=by intro A d;simp only[dK,cm,dP,or_false]at d;obtain rfl|rfl:=d<;>rfl
 have ad:C.fU s' t0 (t++#[x,y]) v.heap.size:=by
  have h:=I.f8;refine⟨?_,?_,?_,?_,?_,?_,?_⟩
  .obtain⟨w,rfl⟩:=h.pre;exact⟨w++#[x,y],by simp[fQ]⟩
  .have hf:=gz.fork (k:=gs.size) (x:=x) (y:=y) h.qI (A5 h) (.inl rfl) ⟨rfl,rfl⟩ ⟨rfl,rfl⟩ hd (I.above _ (aF _));refine hf.mono (λ_ _ h=>h) (λi f=>?_);obtain rfl|⟨L,h2⟩:=f
   .exact .inl (.inl rfl)
   .have al:i<C.N0+(k+1):=h2;by_cases e:i=gs.size
    .exact .inr e
    .refine .inl (.inr ⟨L,?_⟩);rw[a];show i<C.N0+k;omega
  .intro i A f d h0 L;obtain⟨_,r⟩|⟨_,l⟩:=getElem?_append_cases d
   .exact h.elder i A f r h0 L
   .exact U A l
  .intro i A f d;show A.g<C.N0+(k+1);obtain⟨_,r⟩|⟨_,l⟩:=getElem?_append_cases d
   .have:=h.born i A f r;rw[a]at this;have:A.g<C.N0+k:=this;omega
   .simp only[dK,cm,dP,or_false]at l;obtain rfl|rfl:=l
    .show 0<_;omega
    .show gs.size<_;omega
  .intro i f;obtain⟨A,ho,ha⟩:=fA.1 f;obtain⟨_,r⟩|⟨_,l⟩:=getElem?_append_cases ho
   .exact h.norel i (by rw[Trace.act?,r];simp[ha])
   .simp only[dK,cm,dP,or_false]at l;obtain rfl|rfl:=l<;>simp[x,y]at ha
  .refine seen_app h.low λA d=>?_;simp only[dK,cm,dP,or_false]at d;obtain rfl|rfl:=d<;>trivial
  .intro i f D;have D:(upd s.ph k .ready i).said=true:=D;by_cases e:i=k
   .subst e;rw[upd_same]at D;cases D
   .rw[upd_ne _ _ e]at D;exact lT h f D λA d _=>U A d
 refine⟨(gs.setIfInBounds 0 Z).push g2,v,#[x,y],s',K,⟨O,?_,⟨Z,?_,?_⟩,?_,?_,?_,?_,?_,?_,ad⟩,?_⟩
 .simp only[Array.size_push,Array.size_setIfInBounds,ab];show _=C.N0+(k+1);omega
 .rw[fe,if_neg (by simp;omega),j8 (by omega)]
 .rw[Y,hd];exact⟨g',hQ,hX⟩
 .intro j z h0 hN M;rw[H j (by omega) (by omega)]at M;rw[Y];exact I.elder j z h0 hN M
 .intro i z f M;have ao:i<k+1:=f;rw[Y];show p.eU i (s.cb i) (upd s.ph k .ready i) (upd s.rk k ρ i) (s.q (C.N0+i)) (s.own i) _ _ _;by_cases e:i=k
  .subst e;rw[upd_same,upd_same,T,I.above _ (by omega)];rw[fe,if_pos (by simp;omega)]at M;obtain rfl:=dk M;exact hρ
  .rw[H _ (by omega) (by omega)]at M;rw[upd_ne _ _ e,upd_ne _ _ e];exact I.work i z (by rw[a];show i<k;omega) M
 .intro j hj;rw[Y];exact I.above j (by simp at hj;omega)
 .have L:p.Hp {s with sp:=.snd k,m0:=m,G1:=s.G1,G2:=s.G2} v:=Tr I.hp (by rw[a];rfl) (by rw[a];rfl) (by rw[a];rfl) ⟨rfl,rfl⟩ ⟨rfl,rfl⟩;exact sC (rk:=upd s.rk k ρ) (q:=s.q) L (by show Ph.dm _=(s.ph k).dm;rw[o];rfl) (by show Ph.dn _=(s.ph k).dn;rw[o];rfl) (by show Ph.cD _=(s.ph k).cD;rw[o];rfl)
 .obtain⟨ae,sh,V,ch,wk,ge⟩:=I.cls;refine⟨ae,sh,V,λi f=>ch i (by rw[a];exact f),λc i hc=>?_,ge⟩;have:=wk c i hc;rw[a]at this;have:i<k:=this;show i<k+1;omega
 .have E:=I.ctl;have F:∀{Q:Nat->Ph->Prop},(∀i,i<C.n->i≠k->Q i (s.ph i))->Q k .ready->∀i,i<C.n->Q i (upd s.ph k .ready i):=by
   intro Q L h2 i f;by_cases e:i=k
   .subst e;rw[upd_same];exact h2
   .rw[upd_ne _ _ e];exact L i f e
  refine⟨E.n8,R,?_,?_,?_,λ_=>?_,λh=>(by cases h),?_,E.ee,?_,E.ef,?_,?_,hG,S,λb m e=>(by cases e)⟩
  .refine F (Q:=λi z=>z=.unborn↔k+1<=i) (λi f e=>?_) ⟨λh=>(by cases h),λh=>by omega⟩;have:=E.born i f;rw[a]at this;have:s.ph i=.unborn↔k<=i:=this;rw[this];omega
  .refine F (Q:=λi z=>z=.park1->k<=i) (λi f _ D=>?_) (λh=>(by cases h));have:=E.ll i f D;rw[a]at this;exact this
  .refine F (Q:=λi z=>z.cD=true->i<k) (λi f _ D=>?_) (λh=>(by cases h));have:=E.cD i f D;rw[a]at this;exact this
  .exact F (Q:=λi z=>7<=z.num) (λi f _=>E.opened (by rw[a];rfl) i f) (by decide)
  .exact nD E.g1 (by rw[o];decide) (by decide)
  .exact nE E.g2 (by rw[o];decide) (by decide)
  .show s.G1.zz _;rw[hG];trivial
  .show s.G2.zz _;rw[S];trivial
 .refine .inl (pT (i:=C.N0+k) (by omega) ?_ λj hj=>?_)
  .have ag: ¬(C.N0+k<C.N0):=by omega
   have W:C.N0+k - C.N0=k:=by omega
   simp only[aI.dV,ag,if_false,W,s',upd_same,o];exact .num (by decide)
  .unfold aI.dV;by_cases X:j<C.N0
   .simp only[X,if_true,s']
   .have:j - C.N0≠k:=by omega
    simp only[X,if_false,s',upd_ne _ _ this]
end
section
variable{C:aI}{p:cC C}{s s':St}{v v1:aa}{t0 t u:aY}{gs:Array aw}{B B':Nat}
structure Lp (C:aI) (k:Nat) (sp:SP):Prop where
 aW:sp.aW C.n=k+1
 cM:sp.cM C.n=k+1
 made:sp.made C.n=k+1
 closed:sp.closed=false
 jo:∀G,G=.idle->sp.jo G
 kv:∀G,G=.idle->sp.kv G
 kI:match sp with| .mk k| .go k| .snd k=>k<C.n|_=>True
 ni:∀b m,sp=.ca b m->1<=m/\m<=8
 stage:∀s:St,s.sp=sp->C.stage s<28+3*(C.n - k)
 GF:∀b,sp≠.sb b
def a0R(o:p.Ok){k g}(q:p.SN k (s.cb k) g)(r:k<C.n):∃d m g',Lp C k d/\C.Quiet true C.d9 m 0 (g.finishComm C.P #[scase (s.cb k) p.tv p.zS] .send 0 undef false) d.deaf g'/\∀s',s'.sp=d->p.pt s' d g':=by
 obtain⟨_,_,a,c⟩:=o.sn _ _ _ q;by_cases h:k+1<C.n
 .obtain⟨m,g',i,j⟩:=a h;refine⟨.mk (k+1),m,g',⟨rfl,rfl,rfl,rfl,λ_ h=>h,λ_ h=>h,h,λb m e=>(by cases e),λs l=>?_,λb e=>(by cases e)⟩,i,λ_ _=>j⟩;unfold aI.stage;rw[l];show 30+3*(C.n - (k+1))<_;omega
 .have f:k+1=C.n:=by omega
  obtain⟨m,g',i,j⟩:=c f;refine⟨.lw false,m,g',⟨f.symm,f.symm,f.symm,rfl,λ_ h=>h,λ_ h=>h,trivial,λb m e=>(by cases e),λs l=>?_,λb e=>(by cases e)⟩,i,λ_ _=>j⟩;unfold aI.stage;rw[l];show 21<_;omega
def BE{d g g' sp}(a:s.sp=sp)(c:∀b,sp≠.sb b)(e:C.Quiet true C.d9 s.m0 d g sp.deaf g')(f:p.pt s sp g'):p.fT s d g:=by
 unfold cC.fT;rw[a];cases sp with
 |sb b=>exact absurd rfl (c b)
 |_=>exact⟨g',e,f⟩
def a1j(hp:p.Ok)(hS:∀c,C.SB c->c<C.B0)(I:p.Inv t0 s gs v t){g sl}(hg:gs[0]?=some g){k}(l:s.sp=.snd k)(hA:p.SN k (s.cb k) g)(hd:Deaf t 0=0):p.Goes t0 s gs v t 0 sl:=by
 have ab:=I.pos;have X:k<C.n:=by have:=I.ctl.kI;rw[l]at this;exact this
 have av:gs.size=C.N0+(k+1):=by have:=I.size;rw[l]at this;exact this
 have hG:s.G1=.idle:=by have:=I.ctl.s1;rw[l]at this;exact this
 have al:s.G2=.idle:=by have:=I.ctl.s2;rw[l]at this;exact this
 obtain⟨sp,m,g',a,hQ,hX⟩:=a0R (s:=s) hp hA X;obtain⟨_,ao,_⟩:=hp.sn _ _ _ hA;have ad:stepG C.P (0==0) g v=.comm g #[scase (s.cb k) p.tv p.zS] true .send v #[]:=ao v;have H:k<s.sp.made C.n:=by rw[l];exact kj k
 have N:=I.hp.ch k H;have aP: ¬k<s.sp.cM C.n:=by rw[l];show¬k<k;omega
 rw[if_neg aP]at N;obtain⟨n1,n2,n3⟩:=rp I.cls H;have bG:0<gs.size:=by omega
 have ba:C.stage s=28+3*(C.n - k):=by unfold aI.stage;rw[l]
 have A:∀i,i<k+1->i<s.sp.made C.n:=λi o=>by rw[l];exact o
 have bb:∀i x,i<k+1->i≠k->gs[C.N0+i]?=some x->offersAt x (s.cb k) false=[]:=by
  intro i x o aq q;have hW:=I.work i x (by rw[l];exact o) q;obtain⟨_,W,rfl⟩|⟨_,h|⟨_,h⟩⟩:=nQ hp hW
  .refine offersAt_parked_off (λcc O=>?_) _;simp only[cC.cases,dK,cm,dP,or_false]at O;obtain rfl|rfl:=O
   .intro e;simp only[rcase,Value.chan.injEq,cw]at e;exact aq (yp I.cls (A i o) H e)
   .intro e;simp only[rcase,Value.chan.injEq,cw]at e;exact n3 e.symm
  .exact offersAt_of_not_blocked (by rw[h];simp) _ _
  .exact offersAt_of_not_blocked (by rw[h];simp) _ _
 have ae:∀j x,j≠C.N0+k->(gs.setIfInBounds 0 Conc.ph)[j]?=some x->offersAt x (s.cb k) false=[]:=by
  intro j x T q;obtain⟨_,rfl⟩|⟨h0,q⟩:=getElem?_stand gs 0 j x q
  .rfl
  .rcases tL I q with⟨h,_⟩|⟨_,_,hQ⟩|⟨i,rfl,o,_,_⟩
   .exact absurd h h0
   .refine offersAt_of_not_blocked ?_ _ _;obtain h|h:=hQ.status<;>rw[h]<;>simp
   .rw[l]at o;exact bb i x o (λe=>T (by rw[e])) q
 have E:(s.ph k).cD=false:=by
  cases e:(s.ph k).cD with
  |false=>rfl
  |true=>exact absurd (I.ctl.cD k X e) aP
 have K:∀d:Nat->Ph,∀F,C.dL {s with sp:=sp,m0:=m,ph:=d,rk:=F} v.heap.size:=λd F=>by
  obtain⟨bx,sh,bd,ch,wk,ge⟩:=I.cls
  exact⟨bx,sh,bd,λi o=>ch i (A i (by rw[<-a.made];exact o)),λc i hc=>by
   have:=wk c i hc;rw[l]at this;show i<sp.aW C.n;rw[a.aW];exact this,ge⟩
 have ag:∀d:Nat->Ph,∀F,(∀i,i<C.n->i≠k->d i=s.ph i)->d k≠.unborn->d k≠.park1->7<=(d k).num->(d k≠.la1/\d k≠.lb1/\d k≠.lc1)->(d k≠.la2/\d k≠.lb2/\d k≠.lc2)->C.dQ {s with sp:=sp,m0:=m,ph:=d,rk:=F}:=by
  intro d F h1 h2 h3 h4 h5 h6;have Y:=I.ctl;have R:∀{Q:Nat->Ph->Prop},(∀i,i<C.n->i≠k->Q i (s.ph i))->Q k (d k)->∀i,i<C.n->Q i (d i):=by
   intro Q q1 q2 i o;by_cases e:i=k
   .subst e;exact q2
   .rw[h1 i o e];exact q1 i o e
  refine⟨Y.n8,a.kI,?_,?_,?_,λ_=>?_,λh=>?_,?_,Y.ee,?_,Y.ef,?_,?_,a.jo _ hG,a.kv _ al,a.ni⟩
  .show∀i,i<C.n->(d i=.unborn↔sp.aW C.n<=i);rw[a.aW];refine R (Q:=λi z=>z=.unborn↔k+1<=i) (λi o _=>?_) ⟨λe=>absurd e h2,λh=>by omega⟩;have:=Y.born i o;rw[l]at this;exact this
  .show∀i,i<C.n->d i=.park1->sp.cM C.n<=i;rw[a.cM];refine R (Q:=λi z=>z=.park1->k+1<=i) (λi o aq q=>?_) (λe=>absurd e h3);have:=Y.ll i o q;rw[l]at this;have:k<=i:=this;omega
  .show∀i,i<C.n->(d i).cD=true->i<sp.cM C.n;rw[a.cM];refine R (Q:=λi z=>z.cD=true->i<k+1) (λi o aq q=>?_) (λ_=>by omega);have:=Y.cD i o q;rw[l]at this;have:i<k:=this;omega
  .exact R (Q:=λi z=>7<=z.num) (λi o _=>Y.opened (by rw[l];rfl) i o) h4
  .have h':sp.closed=true:=h;rw[a.closed]at h';cases h'
  .refine R (Q:=λi z=>(z=.la1↔s.G1=.la i)/\(z=.lb1↔s.G1=.lb i)/\(z=.lc1↔s.G1=.lc i)) (λi o _=>Y.g1 i o) ?_;rw[hG];exact⟨⟨λe=>absurd e h5.1,λe=>(by cases e)⟩,⟨λe=>absurd e h5.2.1,λe=>(by cases e)⟩,⟨λe=>absurd e h5.2.2,λe=>(by cases e)⟩⟩
  .refine R (Q:=λi z=>(z=.la2↔s.G2=.la i)/\(z=.lb2↔s.G2=.lb i)/\(z=.lc2↔s.G2=.lc i)) (λi o _=>Y.g2 i o) ?_;rw[al];exact⟨⟨λe=>absurd e h6.1,λe=>(by cases e)⟩,⟨λe=>absurd e h6.2.1,λe=>(by cases e)⟩,⟨λe=>absurd e h6.2.2,λe=>(by cases e)⟩⟩
  .show s.G1.zz _;rw[hG];trivial
  .show s.G2.zz _;rw[al];trivial
 have bl:∀d:Nat->Ph,∀F,(∀i,i<C.n->(d i).dm=(s.ph i).dm/\(d i).dn=(s.ph i).dn)->(∀i,i≠k->d i=s.ph i)->∀buf r1,(if (d k).cD then Obj.chan 1 #[] false 1 1 false else .chan 1 #[p.tv] false 1 0 false)=.chan 1 buf false 1 r1 false->p.Hp {s with sp:=sp,m0:=m,ph:=d,rk:=F} (v.setChan (s.cb k) 1 buf false 1 r1 false):=by
  intro d F h1 h2 buf r1 h3;obtain⟨S,_⟩:=vp I.hp I.cls H (cap:=1) (buf:=buf) (cl:=false) (s1:=1) (r1:=r1) (tm:=false);refine⟨?_,S.tb,?_,S.old,S.os,λi o=>?_⟩
  .rw[kp n1.symm];show v.heap[C.r]?=some (C.fc (s.G1.st (cnt (λi=>(d i).dm) C.n)) _ (s.G2.st (cnt (λi=>(d i).dn) C.n)) _);rw[show cnt (λi=>(d i).dm) C.n=C.a1 s from nn λi o=>(h1 i o).1,show cnt (λi=>(d i).dn) C.n=C.a2 s from nn λi o=>(h1 i o).2];exact I.hp.rb
  .rw[kp n3.symm];have:=I.hp.dc;rw[l]at this;show _=some (Obj.chan 0 #[] sp.closed 0 0 false);rw[a.closed];exact this
  .have J:i<k+1:=by rw[<-a.made];exact o
   show _=some (if i<sp.cM C.n then (if (d i).cD then _ else _)else _);rw[a.cM,if_pos J];by_cases e:i=k
   .subst e;rw[h3];exact ur N
   .show(v.setChan (s.cb k) 1 buf false 1 r1 false).heap[s.cb i]?=_;rw[kp λh=>e (yp I.cls (A i J) H h),h2 i e,I.hp.ch i (A i J),if_pos (by rw[l];show i<k;omega)]
 have L:∀buf r1,(v.setChan (s.cb k) 1 buf false 1 r1 false).heap.size=v.heap.size:=λbuf r1=>by simp[World.setChan]
 have M:s.sp.aW C.n=k+1:=by rw[l];rfl
 by_cases V:s.ph k=.park1
 .
  obtain⟨z,hz⟩:∃z,gs[C.N0+k]?=some z:=⟨_,eF (by omega)⟩;have hW:=I.work k z (by rw[l];exact kj k) hz;rw[V]at hW;obtain⟨W,bA,rfl,bB⟩:=hW;obtain⟨_,_,bn⟩:=hp.s1 _ _ _ bA;have ar:partners (gs.setIfInBounds 0 Conc.ph) (s.cb k) false=[(C.N0+k,0)]:=by
   rw[partners_one (stand_get (i:=0) (by omega) hz) (λj x T q=>ae j x T q),offersAt_parked_at (k:=0) (c:=s.cb k) (z:=p.zT) (by simp[cC.cases]) (λm cc hm O=>by
    have:m=1:=by have:=(bW.1 O).1;simp[cC.cases]at this;omega
    subst this;simp[cC.cases]at O;subst O;intro e;simp only[rcase,Value.chan.injEq,cw]at e;exact n3 e.symm)]
   rfl
  have y:=crowd_send_meets_sel (sl:=sl) hg ad N (show C.N0+k≠0 by omega) hz (k:=0) (zj:=p.zT) (by simp[cC.cases]) ar;obtain⟨S,au⟩:=vp I.hp I.cls H (cap:=1) (buf:=#[]) (cl:=false) (s1:=0+1) (r1:=0+1) (tm:=false);obtain⟨ρ,hρ⟩:=bn (s.own k) _ S (sW I.cls (by simp[World.setChan]) k);let s':St:={s with sp:=sp,m0:=m,ph:=upd s.ph k .work,rk:=upd s.rk k ρ};have b:∀w∈(#[{g:=0,fn:=g.frame.fn,pos:=g.frame.place,act:=.send (s.cb k) 0},{g:=C.N0+k,fn:=W.frame.fn,pos:=W.frame.place,act:=.recv (s.cb k) 0 1},{g:=0,fn:=g.frame.fn,pos:=g.frame.place,act:=.sendDone (s.cb k) 0},{g:=C.N0+k,fn:=W.frame.fn,pos:=W.frame.place,act:=.recvDone (s.cb k) 0}]:aY),w.act.touch?=none/\w.g<C.N0+(k+1)/\w.act.low v.heap.size/\∀m,w.act≠.mark m:=by
   intro w f;have hl:=cP N;simp only[dK,cm,dP,or_false]at f;obtain rfl|rfl|rfl|rfl:=f
   .exact⟨rfl,by show 0<_;omega,hl,λm=>by simp⟩
   .exact⟨rfl,by show C.N0+k<_;omega,hl,λm=>by simp⟩
   .exact⟨rfl,by show 0<_;omega,hl,λm=>by simp⟩
   .exact⟨rfl,by show C.N0+k<_;omega,hl,λm=>by simp⟩
  generalize hU:(#[{g:=0,fn:=g.frame.fn,pos:=g.frame.place,act:=.send (s.cb k) 0},{g:=C.N0+k,fn:=W.frame.fn,pos:=W.frame.place,act:=.recv (s.cb k) 0 1},{g:=0,fn:=g.frame.fn,pos:=g.frame.place,act:=.sendDone (s.cb k) 0},{g:=C.N0+k,fn:=W.frame.fn,pos:=W.frame.place,act:=.recvDone (s.cb k) 0}]:aY)=U at y b;have D:runT C.P (crowd gs v sl) 0=(.next (crowd ((gs.setIfInBounds (C.N0+k) (W.finishComm C.P (p.cases (s.cb k)) .select 0 p.tv true)).setIfInBounds 0 (g.finishComm C.P #[scase (s.cb k) p.tv p.zS] .send 0 undef false)) (v.setChan (s.cb k) 1 #[] false 1 1 false) sl),U):=by rw[y];simp[MemOp.ofEvents]
  have Z:∀j,Deaf (t++U) j=Deaf t j:=λj=>ry λw f=>⟨(b w f).2.2.2 _,(b w f).2.2.2 _⟩;have bI:∀i,s'.own i=s.own i:=λi=>rfl;have bo:∀i,i≠k->s'.ph i=s.ph i:=λi o=>upd_ne _ _ o;have bp:s'.ph k=.work:=upd_same _ _ _;refine⟨_,_,_,s',D,⟨ab,?_,⟨_,by rw[j8 (by simp;omega)],?_⟩,?_,?_,?_,?_,?_,?_,?_⟩,?_⟩
  .show _=C.N0+sp.aW C.n;rw[a.aW];simpa using av
  .rw[Z,hd];exact BE (sp:=sp) rfl a.GF hQ (hX s' rfl)
  .intro j x h0 hN q;rw[di (by omega),di (by omega)]at q;rw[Z];exact I.elder j x h0 hN q
  .intro i x o q;have J:i<k+1:=by rw[<-a.aW];exact o
   rw[di (by omega)]at q;rw[Z];by_cases e:i=k
   .subst e;rw[j8 (by omega)]at q;obtain rfl:=dk q;show p.eU i (s.cb i) (upd s.ph i .work i) (upd s.rk i ρ i) _ (s.own i) _ _ _;rw[upd_same,upd_same,bB];exact hρ
   .rw[di (by omega)]at q;show p.eU i (s.cb i) (upd s.ph k .work i) (upd s.rk k ρ i) _ (s.own i) _ _ _;rw[upd_ne _ _ e,upd_ne _ _ e];exact pn hp (I.work i x (by rw[l];exact J) q) (au i)
  .intro j T;rw[Z];exact I.above j (by simpa using T)
  .refine bl (upd s.ph k .work) (upd s.rk k ρ) (λi o=>?_) (λi o=>upd_ne _ _ o) #[] 1 (by rw[upd_same];rfl);by_cases e:i=k
   .subst e;rw[upd_same,V];exact⟨rfl,rfl⟩
   .rw[upd_ne _ _ e];exact⟨rfl,rfl⟩
  .rw[L];exact K _ _
  .refine ag _ _ (λi _ o=>upd_ne _ _ o) ?_ ?_ ?_ ?_ ?_<;>rw[upd_same]<;>decide
  .rw[L];refine qJ I.f8 (aF _) (by rw[M];exact a.aW) (λ_ _ h=>h) (λw f=>(b w f).1) (λw f=>by rw[M];exact(b w f).2.1) (λw f=>(b w f).2.2.1) (λw f=>(b w f).2.2.2 _) (λi o q=>lT I.f8 o ?_ λw f _=>(b w f).1);by_cases e:i=k
   .subst e;rw[bp]at q;cases q
   .rw[bo i e]at q;exact q
  .refine .inl (pT (i:=C.N0+k) (by omega) ?_ λj T=>?_)
   .have bC: ¬(C.N0+k<C.N0):=by omega
    have br:C.N0+k - C.N0=k:=by omega
    simp only[aI.dV,bC,if_false,br,s',upd_same,V];exact .num (by decide)
   .unfold aI.dV;by_cases bs:j<C.N0
    .simp only[bs,if_true,s']
    .have:j - C.N0≠k:=by omega
     simp only[bs,if_false,s',upd_ne _ _ this]
 .
  have ar:partners (gs.setIfInBounds 0 Conc.ph) (s.cb k) false=[]:=by
   refine partners_nil λj x q=>?_;by_cases T:j=C.N0+k
   .subst T;obtain⟨h,_⟩|⟨_,q⟩:=getElem?_stand gs 0 _ x q
    .omega
    .have hW:=I.work k x (by rw[l];exact kj k) q;obtain⟨h|h,_⟩|⟨_,h|⟨_,h⟩⟩:=nQ hp hW
     .exact absurd h V
     .rw[h]at E;cases E
     .exact offersAt_of_not_blocked (by rw[h];simp) _ _
     .exact offersAt_of_not_blocked (by rw[h];simp) _ _
   .exact ae j x T q
  have y:=crowd_send_room (sl:=sl) hg ad N (by simp) ar;obtain⟨S,au⟩:=vp I.hp I.cls H (cap:=1) (buf:=#[p.tv]) (cl:=false) (s1:=1) (r1:=0) (tm:=false);let s':St:={s with sp:=sp,m0:=m};have b:∀w∈(#[{g:=0,fn:=g.frame.fn,pos:=g.frame.place,act:=.send (s.cb k) 0},{g:=0,fn:=g.frame.fn,pos:=g.frame.place,act:=.sendDone (s.cb k) 0}]:aY),w.act.touch?=none/\w.g<C.N0+(k+1)/\w.act.low v.heap.size/\∀m,w.act≠.mark m:=by
   intro w f;have hl:=cP N;simp only[dK,cm,dP,or_false]at f;obtain rfl|rfl:=f
   .exact⟨rfl,by show 0<_;omega,hl,λm=>by simp⟩
   .exact⟨rfl,by show 0<_;omega,hl,λm=>by simp⟩
  generalize hU:(#[{g:=0,fn:=g.frame.fn,pos:=g.frame.place,act:=.send (s.cb k) 0},{g:=0,fn:=g.frame.fn,pos:=g.frame.place,act:=.sendDone (s.cb k) 0}]:aY)=U at y b;have D:runT C.P (crowd gs v sl) 0=(.next (crowd (gs.setIfInBounds 0 (g.finishComm C.P #[scase (s.cb k) p.tv p.zS] .send 0 undef false)) (v.setChan (s.cb k) 1 #[p.tv] false 1 0 false) sl),U):=by rw[y];simp[MemOp.ofEvents]
  have Z:∀j,Deaf (t++U) j=Deaf t j:=λj=>ry λw f=>⟨(b w f).2.2.2 _,(b w f).2.2.2 _⟩;refine⟨_,_,_,s',D,⟨ab,?_,⟨_,by rw[j8 (by omega)],?_⟩,?_,?_,?_,?_,?_,?_,?_⟩,?_⟩
  .show _=C.N0+sp.aW C.n;rw[a.aW];simpa using av
  .rw[Z,hd];exact BE (sp:=sp) rfl a.GF hQ (hX s' rfl)
  .intro j x h0 hN q;rw[di (by omega)]at q;rw[Z];exact I.elder j x h0 hN q
  .intro i x o q;have J:i<k+1:=by rw[<-a.aW];exact o
   rw[di (by omega)]at q;rw[Z];exact pn hp (I.work i x (by rw[l];exact J) q) (au i)
  .intro j T;rw[Z];exact I.above j (by simpa using T)
  .exact bl s.ph s.rk (λ_ _=>⟨rfl,rfl⟩) (λ_ _=>rfl) #[p.tv] 0 (by rw[E];rfl)
  .rw[L];exact K _ _
  .have bw:=I.ctl.opened (by rw[l];rfl) k X;have bF:s.ph k≠.unborn:=λe=>by have:=(I.ctl.born k X).1 e;rw[l]at this;have:k+1<=k:=this;omega
   refine ag s.ph s.rk (λ_ _ _=>rfl) bF V bw ?_ ?_
   .revert E;cases s.ph k<;>decide
   .revert E;cases s.ph k<;>decide
  .rw[L];exact qJ I.f8 (aF _) (by rw[M];exact a.aW) (λ_ _ h=>h) (λw f=>(b w f).1) (λw f=>by rw[M];exact(b w f).2.1) (λw f=>(b w f).2.2.1) (λw f=>(b w f).2.2.2 _) (λi o q=>lT I.f8 o q λw f _=>(b w f).1)
  .exact .inr ⟨wR rfl rfl rfl,.inl (by rw[ba];exact a.stage s' rfl)⟩
end
end Go.Mir
end
